import Derived.Test.YtnjbheammpdjfaaKXM
import Derived.Test.YtnjbheammpdjfaaKXY
import Derived.Test.YtnjbheammpdjfaaKMR7Q
import Derived.Test.YtnjbheammpdjfaaKXMR
import Derived.Test.YtnjbheammpdjfaaKXM3
import Derived.Test.YtnjbheammpdjfaaKXQF
import Derived.Test.YtnjbheammpdjfaaKXO
import Derived.Test.YtnjbheammpdjfaaKXO3
import Derived.Test.YtnjbheammpdjfaaKXEA
import Derived.Test.YtnjbheammpdjfaaProg
import Derived.Test.YtnjbheammpdjfaaKXA0
import Derived.Test.YtnjbheammpdjfaaKQA
import Derived.Test.YtnjbheammpdjfaaKQP
import Derived.Test.YtnjbheammpdjfaaKXQU
import Derived.RowKit
import Derived.Laws.FloatArith
import Derived.WalkKit
import Derived.ProofKit
import Derived.RowKit3
import Derived.WalkSpells
import Derived.StillTactics
import Derived.Deep.QuietTactic
import Derived.BigQuiet
import Derived.Below
import Derived.Deep.OwnRows
import Derived.OwnWalk
import Derived.Laws.BitsAllLaws
import Derived.Laws.Slices
import Derived.Laws.Bits64b
import Derived.Deep.RegionHeld3
namespace Go.Proofs.Ytnjbheammpdjfaa
open Go.RowKit
theorem rU_vV (d : Int) (m : Nat) (hm : m < 9218868437227405312) : rU d 53 (Fq.vV Ieee.double m) 1 = Fq.vV Ieee.double m := by
  obtain ⟨E, hE⟩ : ∃ E, E = Fq.eE Ieee.double m := ⟨_, rfl⟩
  obtain ⟨M, hM⟩ : ∃ M, M = Fq.mM Ieee.double m := ⟨_, rfl⟩
  have hV : Fq.vV Ieee.double m = M * 2 ^ E := by rw [hM, hE]; rfl
  have hMb : M < 9007199254740992 ∧ (E = 0 ∨ 4503599627370496 ≤ M) := by
    rw [hM, hE]; unfold Fq.mM Fq.eE; rw [Fq.binD]
    by_cases c : m < 4503599627370496
    · rw [if_pos c, if_pos c]; exact ⟨by omega, .inl rfl⟩
    · rw [if_neg c, if_neg c]
      have := Nat.mod_lt m (show 0 < 4503599627370496 by decide)
      exact ⟨by omega, .inr (by omega)⟩
  rw [hV]
  clear hV hM hE
  have p0 : 0 < 2 ^ E := Nat.two_pow_pos E
  have hr : rE 53 (M * 2 ^ E) 1 = E := by
    refine rE_uniq 53 (M * 2 ^ E) 1 E (by decide) (by decide) ?_ ?_
    · rw [Nat.one_mul, Nat.pow_add, Nat.mul_comm]
      exact Nat.mul_lt_mul_of_pos_left (by rw [show (2 : Nat) ^ 53 = 9007199254740992 from by decide]; exact hMb.1) p0
    · rcases hMb.2 with h | h
      · exact .inl h
      · refine .inr ?_
        rw [Nat.one_mul, show E + 53 - 1 = 52 + E from by omega, Nat.pow_add, show (2 : Nat) ^ 52 = 4503599627370496 from by decide]
        exact Nat.mul_le_mul_right _ h
  unfold rU rS rR
  rw [hr, Nat.one_mul, Nat.mul_div_cancel _ p0, Nat.mul_mod_left, upw_none _ _ _ p0]
  simp
theorem fin_vV (d : Int) (m : Nat) (hm : m < 9218868437227405312) : finU 53 2098 9218868437227405311 9218868437227405312 d (Fq.vV Ieee.double m) = m := by
  have h1 := rU_vV d m hm
  have h2 := vV_rung (Fq.vV Ieee.double m) d
  rw [h1] at h2
  have h3 : rgU 53 (Fq.vV Ieee.double m) = m := (Fq.vV_inj _ _ _).1 h2
  obtain ⟨K, hK⟩ : ∃ K : Nat, K = 2098 := ⟨_, rfl⟩
  have hb : Fq.vV Ieee.double m < 2 ^ K := by
    unfold Fq.vV Fq.mM Fq.eE; rw [Fq.binD]
    have hp : ∀ a e : Nat, a < 9007199254740992 → e ≤ 2045 → a * 2 ^ e < 2 ^ K := fun a e ha he => by
      have g : a * 2 ^ e < 2 ^ 53 * 2 ^ e := Nat.mul_lt_mul_of_pos_right (by rw [show (2 : Nat) ^ 53 = 9007199254740992 from by decide]; exact ha) (Nat.two_pow_pos e)
      rw [← Nat.pow_add] at g
      exact Nat.lt_of_lt_of_le g (Nat.pow_le_pow_right (by decide) (by omega))
    by_cases c : m < 4503599627370496
    · rw [if_pos c, if_pos c]; exact hp _ _ (by omega) (by omega)
    · rw [if_neg c, if_neg c]
      have := Nat.mod_lt m (show 0 < 4503599627370496 by decide)
      exact hp _ _ (by omega) (by omega)
  have hbl : blen (Fq.vV Ieee.double m) ≤ 2098 := by rw [← hK]; exact (blen_le_iff _ _).2 hb
  unfold finU
  rw [if_pos hbl, h3]
theorem vV_zero_iff (m : Nat) : Fq.vV Ieee.double m = 0 ↔ m = 0 := by
  have h := Fq.vV_inj Ieee.double m 0
  rw [Fq.vV_zero] at h
  exact h
theorem sumW_exact (d : Int) (n : Bool) (m : Nat) (hm : m < 9218868437227405312) : sumW d (Iv n m) = Fq.pla (Fq.wD n m) := by
  unfold sumW
  by_cases c : m = 0
  · have h0 : Iv n m = 0 := by unfold Iv; rw [c, Fq.vV_zero]; cases n <;> rfl
    rw [if_pos h0, c]; unfold Fq.pla Fq.wD; cases n <;> rfl
  · have hv : Fq.vV Ieee.double m ≠ 0 := fun h => c ((vV_zero_iff m).1 h)
    have h0 : Iv n m ≠ 0 := by unfold Iv; cases n <;> simp <;> omega
    have h1 : decide (Iv n m < 0) = n := by unfold Iv; cases n <;> simp <;> omega
    have h2 : (Iv n m).natAbs = Fq.vV Ieee.double m := by unfold Iv; cases n <;> simp
    rw [if_neg h0, h1, h2, rU_vV _ m hm, fin_vV _ m hm]
    unfold mdW Fq.pla Fq.wD
    rw [if_neg c]
    cases n <;> simp <;> omega
/-- the pattern of what lies opposite -/
def mnP (n : Bool) (m : Nat) : Nat := Fq.pla (Fq.wD (!n) m)
theorem sub_zero_w (n : Bool) (m : Nat) (hm : m ≤ 9218868437227405312) : FloatKind.f64.format.sub 0 (Fq.wD n m) = some (mnP n m) := by
  by_cases c : m = 9218868437227405312
  · rw [c]; cases n <;> decide +kernel
  · have h := sub_w false n 0 m (by decide) (by omega) (Iv (!n) m) (by unfold Iv; rw [Fq.vV_zero]; cases n <;> simp)
    rw [show Fq.wD false 0 = 0 from rfl] at h
    rw [h]
    have e := sumW_exact 0 (!n) m (by omega)
    unfold mnP
    by_cases z : m = 0
    · have h0 : Iv (!n) m = 0 := by unfold Iv; rw [z, Fq.vV_zero]; cases n <;> rfl
      rw [if_pos h0, h0, z]
      have g := rU_vV 0 0 (by decide)
      have g2 := fin_vV 0 0 (by decide)
      rw [Fq.vV_zero] at g g2
      rw [show (0 : Int).natAbs = 0 from rfl, g, g2]
      cases n <;> rfl
    · have hv : Fq.vV Ieee.double m ≠ 0 := fun h => z ((vV_zero_iff m).1 h)
      have h0 : Iv (!n) m ≠ 0 := by unfold Iv; cases n <;> simp <;> omega
      have h1 : decide (Iv (!n) m < 0) = !n := by unfold Iv; cases n <;> simp <;> omega
      have h2 : (Iv (!n) m).natAbs = Fq.vV Ieee.double m := by unfold Iv; cases n <;> simp
      rw [if_neg h0, h1, h2, rU_vV _ m (by omega), fin_vV _ m (by omega)]
      congr 1
      unfold Fq.pla Fq.wD
      cases n <;> simp <;> omega

theorem rlo_w (a b : Nat) (ha : a < 18446744073709551616) (hb : b < 18446744073709551616) : ∃ n m, m ≤ 9218868437227405312 ∧ Fq.rlo a b = Fq.wD n m := by
  obtain ⟨n, m, hm, rfl⟩ := Fq.exD a ha
  obtain ⟨n', m', hm', rfl⟩ := Fq.exD b hb
  by_cases c : Fq.snd (Fq.wD n m) (Fq.wD n' m') = true
  · have es := Fq.snd_w n n' m m' hm hm'
    rw [c] at es
    have es := of_decide_eq_true es.symm
    rw [show Fq.rlo (Fq.wD n m) (Fq.wD n' m') = Fq.pla (Fq.wD n m) from by simp [Fq.rlo, c]]
    by_cases c2 : Fq.wD n m = 9223372036854775808
    · exact ⟨false, 0, by decide, by unfold Fq.pla; rw [if_pos c2]; rfl⟩
    · exact ⟨n, m, es.1, by simp [Fq.pla, c2]⟩
  · exact ⟨false, 9218868437227405312, by decide, by unfold Fq.rlo; rw [if_neg c]; rfl⟩
theorem rhi_w (a b : Nat) (ha : a < 18446744073709551616) (hb : b < 18446744073709551616) : ∃ n m, m ≤ 9218868437227405312 ∧ Fq.rhi a b = Fq.wD n m := by
  obtain ⟨n, m, hm, rfl⟩ := Fq.exD a ha
  obtain ⟨n', m', hm', rfl⟩ := Fq.exD b hb
  by_cases c : Fq.snd (Fq.wD n m) (Fq.wD n' m') = true
  · have es := Fq.snd_w n n' m m' hm hm'
    rw [c] at es
    have es := of_decide_eq_true es.symm
    rw [show Fq.rhi (Fq.wD n m) (Fq.wD n' m') = Fq.pla (Fq.wD n' m') from by simp [Fq.rhi, c]]
    by_cases c2 : Fq.wD n' m' = 9223372036854775808
    · exact ⟨false, 0, by decide, by unfold Fq.pla; rw [if_pos c2]; rfl⟩
    · exact ⟨n', m', es.2.1, by simp [Fq.pla, c2]⟩
  · exact ⟨true, 9218868437227405312, by decide, by unfold Fq.rhi; rw [if_neg c]; rfl⟩
/-- the pattern of what lies opposite, of patterns -/
def opP (x : Nat) : Nat := if x % 9223372036854775808 = 0 then 0 else if x < 9223372036854775808 then x + 9223372036854775808 else x - 9223372036854775808
theorem opP_w (n : Bool) (m : Nat) (hm : m < 9223372036854775808) : opP (Fq.wD n m) = mnP n m := by
  unfold opP mnP Fq.pla Fq.wD
  cases n <;> simp <;> repeat' split
  all_goals omega
theorem Fq.H2.two0 (w : World) (a b c d : Value) (s t : TypeId) : Fq.H2 ((w.alloc (.cells #[a, b] s)).alloc (.cells #[c, d] t)) (w.heap.size + 1) c d := by
  unfold Fq.H2; simp [go_sem]
/-- the rung of a ratio's rounding -/
theorem rung_ofB (A B : Nat) (hB : 0 < B) (d : Int) (E K : Nat) (hE : E = rE 53 A B) (hK : K = rS 53 A B + (upw d (rS 53 A B) (rR 53 A B) (B * 2 ^ rE 53 A B)).toNat) : rU d 53 A B = K * 2 ^ E ∧ K ≤ 9007199254740992 ∧ rgU 53 (rU d 53 A B) = E * 4503599627370496 + K ∧ (blen (rU d 53 A B) ≤ 2098 ↔ E * 4503599627370496 + K < 9218868437227405312) := by
  obtain ⟨h1, h2⟩ := rE_spec 53 A B hB (by omega)
  have hU : rU d 53 A B = K * 2 ^ E := by unfold rU; rw [← hK, ← hE]
  rw [← hE] at h1 h2
  have hTp : 0 < B * 2 ^ E := Nat.mul_pos hB (Nat.two_pow_pos E)
  rw [Nat.pow_add, ← Nat.mul_assoc, show (2 : Nat) ^ 53 = 9007199254740992 from by decide] at h1
  have hSq : rS 53 A B = A / (B * 2 ^ E) := by unfold rS; rw [← hE]
  have hS1 : rS 53 A B < 9007199254740992 := by rw [hSq, Nat.div_lt_iff_lt_mul hTp, Nat.mul_comm]; exact h1
  have hS2 : E = 0 ∨ 4503599627370496 ≤ rS 53 A B := by
    rcases h2 with h | h
    · exact Or.inl h
    · right
      rw [show E + 53 - 1 = E + 52 from by omega, Nat.pow_add, ← Nat.mul_assoc, show (2 : Nat) ^ 52 = 4503599627370496 from by decide] at h
      rw [hSq, Nat.le_div_iff_mul_le hTp, Nat.mul_comm]
      exact h
  have hb : (upw d (rS 53 A B) (rR 53 A B) (B * 2 ^ rE 53 A B)).toNat ≤ 1 := Bool.toNat_le _
  have hK1 : K ≤ 9007199254740992 := by omega
  have hK2 : E = 0 ∨ 4503599627370496 ≤ K := by omega
  refine ⟨hU, hK1, ?_⟩
  rw [hU]
  by_cases c0 : K = 0
  · have hE0 : E = 0 := by omega
    rw [c0, hE0, Nat.zero_mul, rgU_zero, blen_zero]
    omega
  · by_cases c1 : K = 9007199254740992
    · have e1 : K * 2 ^ E = 4503599627370496 * 2 ^ (E + 1) := by rw [c1, Nat.pow_succ]; omega
      have b1 : blen 4503599627370496 = 53 := by
        have := blen_uniq 4503599627370496 52 (by decide) (by decide)
        exact this
      rw [e1, rgU_mul 53 4503599627370496 (E + 1) 0 (by decide) (by rw [b1]; omega) (by rw [b1]; omega), blen_mul _ _ (by decide), b1, show (2 : Nat) ^ (53 - 1) = 4503599627370496 from by decide, Nat.pow_zero, Nat.mul_one, c1]
      constructor
      · omega
      · omega
    · have hlt : K < 9007199254740992 := by omega
      by_cases c2 : E = 0
      · rw [c2, Nat.pow_zero, Nat.mul_one]
        have hb2 : blen K ≤ 53 := by rw [blen_le_iff, show (2 : Nat) ^ 53 = 9007199254740992 from by decide]; exact hlt
        have : rgU 53 K = K := by
          unfold rgU
          rw [show blen K - 53 = 0 from by omega, Nat.zero_mul, Nat.pow_zero, Nat.div_one, Nat.zero_add]
        rw [this]
        omega
      · have hge : 4503599627370496 ≤ K := by omega
        have b1 : blen K = 53 := by
          have hb2 : blen K ≤ 53 := by rw [blen_le_iff, show (2 : Nat) ^ 53 = 9007199254740992 from by decide]; exact hlt
          have hb3 : ¬ blen K ≤ 52 := by rw [blen_le_iff, show (2 : Nat) ^ 52 = 4503599627370496 from by decide]; omega
          omega
        rw [rgU_mul 53 K E 0 c0 (by rw [b1]; omega) (by omega), blen_mul _ _ c0, b1, show (2 : Nat) ^ (53 - 1) = 4503599627370496 from by decide, Nat.pow_zero, Nat.mul_one]
        constructor
        · omega
        · omega

open Ieee in
/-- the model's nearest, where the last place lies below the least one -/
theorem near_w2 (neg : Bool) (mag : Nat) (place : Int) (k : Nat) (hk : place + 1074 = -(k : Int)) : Ieee.double.nearest neg mag place = Fq.wD neg (finU 53 2098 9218868437227405311 9218868437227405312 0 (rU 0 53 mag (2 ^ k))) := by
  have hkp := Nat.two_pow_pos k
  by_cases c : mag = 0
  · unfold Ieee.Format.nearest
    rw [if_pos c, wdD9, c]
    have h0 : rU 0 53 0 (2 ^ k) = 0 := by
      unfold rU rS rR
      rw [Nat.zero_div, Nat.zero_mod, upw_none _ _ _ (Nat.mul_pos hkp (Nat.two_pow_pos _))]
      simp
    rw [h0]
    unfold finU
    rw [blen_zero, if_pos (by omega), rgU_zero]
  · rw [nearest_def _ _ _ _ c, wdD9, lpD9, fbD9, Fq.binD, Fq.infD]
    have hbA : blen mag = mag.log2 + 1 := log2_blen mag c
    obtain ⟨E, hE⟩ : ∃ E, E = rE 53 mag (2 ^ k) := ⟨_, rfl⟩
    have hE2 : E = mag.log2 + 1 - k - 53 := by rw [hE]; unfold rE; rw [blen_shr, hbA]
    obtain ⟨last, hl⟩ : ∃ last : Int, last = max (place + (mag.log2 : Nat) - ((52 : Nat) : Int)) (-1074) := ⟨_, rfl⟩
    have hlE : (E : Int) = last + 1074 := by rw [hl]; omega
    obtain ⟨K, hK⟩ : ∃ K, K = rS 53 mag (2 ^ k) + (upw 0 (rS 53 mag (2 ^ k)) (rR 53 mag (2 ^ k)) (2 ^ k * 2 ^ rE 53 mag (2 ^ k))).toNat := ⟨_, rfl⟩
    have hkept : Ieee.Toward.even.cut neg (mag <<< (place - last).toNat) (last - place).toNat = K := by
      rw [cut_even, hK]
      unfold rS rR
      rw [← hE, Nat.shiftLeft_eq, show (place - last).toNat = 0 from by omega, show (last - place).toNat = k + E from by omega, Nat.pow_zero, Nat.mul_one, Nat.pow_add]
    rw [← hl]
    rw [hkept, show (last - (-1074)).toNat = E from by omega]
    obtain ⟨_, _, h5, h6⟩ := rung_ofB mag (2 ^ k) hkp 0 E K hE hK
    unfold finU
    congr 1
    by_cases c2 : blen (rU 0 53 mag (2 ^ k)) ≤ 2098
    · rw [if_pos c2, h5]; exact Nat.min_eq_left (Nat.le_of_lt (h6.1 c2))
    · rw [if_neg c2, if_neg (by decide)]
      exact Nat.min_eq_right (Nat.le_of_not_lt (fun h => c2 (h6.2 h)))
/-- the model's half of a number -/
theorem div2_w (n : Bool) (m : Nat) (h1 : m < 9218868437227405312) : FloatKind.f64.format.div (Fq.wD n m) 4611686018427387904 = some (Fq.wD n (finU 53 2098 9218868437227405311 9218868437227405312 0 (rU 0 53 (Fq.vV Ieee.double m) 2))) := by
  show Ieee.double.div _ _ = _
  have e2 : (4611686018427387904 : Nat) = Fq.wD false 4611686018427387904 := rfl
  rw [e2]
  unfold Ieee.Format.div
  rw [Fq.read_fin _ _ (by rw [Fq.rgD n m (by omega), Fq.infD]; omega), Fq.read_fin _ _ (by rw [Fq.rgD false 4611686018427387904 (by omega), Fq.infD]; omega), Fq.rgD n m (by omega), Fq.rgD false 4611686018427387904 (by omega), Fq.ngD n m (by omega), Fq.ngD false 4611686018427387904 (by omega), lpD9, fbD9]
  have heb : Fq.eE Ieee.double 4611686018427387904 = 1023 := by unfold Fq.eE; rw [Fq.binD]; decide
  have hmb : Fq.mM Ieee.double 4611686018427387904 = 4503599627370496 := by unfold Fq.mM; rw [Fq.binD]; decide
  have hvV : Fq.vV Ieee.double m = Fq.mM Ieee.double m * 2 ^ Fq.eE Ieee.double m := rfl
  rw [hvV, heb, hmb]
  have hle : (Fq.mM Ieee.double m).log2 ≤ 52 := by
    by_cases c : Fq.mM Ieee.double m = 0
    · rw [c]; decide
    · have hlt : Fq.mM Ieee.double m < 2 ^ 53 := by
        unfold Fq.mM; rw [Fq.binD, show (2 : Nat) ^ 53 = 9007199254740992 from by decide]; split <;> omega
      have := (blen_le_iff _ 53).2 hlt
      have := log2_blen _ c
      omega
  obtain ⟨e, hee⟩ : ∃ e, e = Fq.eE Ieee.double m := ⟨_, rfl⟩
  obtain ⟨a, ha⟩ : ∃ a, a = Fq.mM Ieee.double m := ⟨_, rfl⟩
  rw [← ha] at hle
  rw [← hee, ← ha]
  clear hee ha heb hmb hvV e2 h1
  have l2 : (4503599627370496 : Nat).log2 = 52 := by
    have hb := blen_uniq 4503599627370496 52 (by decide) (by decide)
    have := log2_blen 4503599627370496 (by decide)
    omega
  unfold Ieee.Datum.quotient
  simp only
  rw [if_neg (by decide), l2]
  simp only [Option.map_some]
  unfold Ieee.Format.write
  simp only
  obtain ⟨mo, hmo⟩ : ∃ mo, mo = 52 + 2 + 52 - a.log2 := ⟨_, rfl⟩
  rw [← hmo, Nat.shiftLeft_eq]
  have hdv : a * 2 ^ mo = a * 2 ^ (mo - 52) * 4503599627370496 := by
    rw [show (4503599627370496 : Nat) = 2 ^ 52 from by decide, Nat.mul_assoc, ← Nat.pow_add]; congr 2; omega
  have hq : a * 2 ^ mo / 4503599627370496 = a * 2 ^ (mo - 52) := by rw [hdv, Nat.mul_div_cancel _ (by decide)]
  have hr : a * 2 ^ mo % 4503599627370496 = 0 := by rw [hdv, Nat.mul_mod_left]
  rw [hq, hr]
  rw [show ((0 : Nat) != 0).toNat = 0 from rfl, Nat.add_zero]
  have hmag : 2 * (a * 2 ^ (mo - 52)) = a * 2 ^ (mo - 51) := by
    rw [show mo - 51 = (mo - 52) + 1 from by omega, Nat.pow_succ]
    rw [Nat.mul_left_comm, Nat.mul_comm 2]
  rw [hmag, show (n ^^ false) = n from by cases n <;> rfl]
  by_cases c : mo ≤ e + 50
  · obtain ⟨t, ht⟩ : ∃ t : Nat, t = e + 50 - mo := ⟨_, rfl⟩
    rw [near_w _ _ _ t (by omega)]
    congr 3
    apply rU_ratio _ _ _ _ _ _ (by decide) (by decide)
    have h2 : 2 ^ (mo - 51) * 2 ^ t * 2 = 2 ^ e := by rw [← Nat.pow_add, ← Nat.pow_succ]; congr 1; omega
    rw [Nat.mul_one, Nat.mul_assoc a, Nat.mul_assoc a, h2]
  · obtain ⟨k, hk⟩ : ∃ k : Nat, k = mo - 50 - e := ⟨_, rfl⟩
    rw [near_w2 _ _ _ k (by omega)]
    congr 3
    apply rU_ratio _ _ _ _ _ _ (Nat.two_pow_pos k) (by decide)
    rw [Nat.mul_assoc, ← Nat.pow_succ, Nat.mul_assoc, ← Nat.pow_add]
    congr 2
    omega
theorem rU_dvd (d : Int) (A : Nat) (h : A % 2 ^ rE 53 A 1 = 0) : rU d 53 A 1 = A := by
  unfold rU rS rR
  rw [Nat.one_mul, h, upw_none _ _ _ (Nat.two_pow_pos _)]
  simp only [Bool.toNat_false, Nat.add_zero]
  exact Nat.div_mul_cancel (Nat.dvd_of_mod_eq_zero h)
theorem rU_rep (d : Int) (K j : Nat) (h : K ≤ 9007199254740992) : rU d 53 (K * 2 ^ j) 1 = K * 2 ^ j := by
  have key : ∀ K j : Nat, K < 9007199254740992 → rU d 53 (K * 2 ^ j) 1 = K * 2 ^ j := fun K j h => by
    by_cases c : K = 0
    · rw [c, Nat.zero_mul]; exact rU_dvd d 0 (Nat.zero_mod _)
    · apply rU_dvd
      have hb : blen K ≤ 53 := by rw [blen_le_iff, show (2 : Nat) ^ 53 = 9007199254740992 from by decide]; exact h
      have hE : rE 53 (K * 2 ^ j) 1 ≤ j := by unfold rE; rw [Nat.div_one, blen_mul _ _ c]; omega
      obtain ⟨E, hE2⟩ : ∃ E, E = rE 53 (K * 2 ^ j) 1 := ⟨_, rfl⟩
      rw [← hE2] at hE ⊢
      rw [show j = (j - E) + E from by omega, Nat.pow_add, ← Nat.mul_assoc, Nat.mul_mod_left]
  by_cases c : K = 9007199254740992
  · have e : K * 2 ^ j = 4503599627370496 * 2 ^ (j + 1) := by rw [c, Nat.pow_succ]; omega
    rw [e]; exact key _ _ (by decide)
  · exact key K j (by omega)
/-- rounded once, then its half rounded: as the half rounded once -/
theorem dbl_round (A : Nat) : rU 0 53 (rU 0 53 A 1) 2 = rU 0 53 A 2 := by
  by_cases c : blen A ≤ 53
  · have : rU 0 53 A 1 = A := by
      apply rU_dvd
      have : rE 53 A 1 = 0 := by unfold rE; rw [Nat.div_one]; omega
      rw [this, Nat.pow_zero, Nat.mod_one]
    rw [this]
  · obtain ⟨E, hE⟩ : ∃ E, E = rE 53 A 1 := ⟨_, rfl⟩
    have hE1 : E = blen A - 53 := by rw [hE]; unfold rE; rw [Nat.div_one]
    have hE2 : rE 53 A 2 = E - 1 := by
      unfold rE
      have := blen_shr A 1
      rw [Nat.pow_one] at this
      rw [this]; omega
    obtain ⟨K, hK⟩ : ∃ K, K = rS 53 A 1 + (upw 0 (rS 53 A 1) (rR 53 A 1) (1 * 2 ^ rE 53 A 1)).toNat := ⟨_, rfl⟩
    obtain ⟨h1, h2, -⟩ := rung_of A 0 E K hE hK
    have hw : 2 * 2 ^ (E - 1) = 2 ^ E := by rw [Nat.mul_comm, ← Nat.pow_succ]; congr 1; omega
    have e2 : rU 0 53 A 2 = K * 2 ^ (E - 1) := by
      unfold rU rS rR
      rw [hE2, hw, hK]
      unfold rS rR
      rw [← hE, Nat.one_mul]
    rw [h1, e2]
    have e3 : rU 0 53 (K * 2 ^ E) 2 = rU 0 53 (K * 2 ^ (E - 1)) 1 := by
      apply rU_ratio _ _ _ _ _ _ (by decide) (by decide)
      rw [Nat.mul_one, Nat.mul_assoc, Nat.mul_comm _ 2, hw]
    rw [e3, rU_rep 0 K (E - 1) h2]
/-- below the middle behind the greatest number nothing overflows -/
theorem no_over (A T J : Nat) (hJ : J = 2044) (hT : T = 2 ^ J) (h : A + T < 18014398509481984 * T) : blen (rU 0 53 A 1) ≤ 2098 := by
  obtain ⟨E, hE⟩ : ∃ E, E = rE 53 A 1 := ⟨_, rfl⟩
  obtain ⟨K, hK⟩ : ∃ K, K = rS 53 A 1 + (upw 0 (rS 53 A 1) (rR 53 A 1) (1 * 2 ^ rE 53 A 1)).toNat := ⟨_, rfl⟩
  obtain ⟨h1, h2, h3, h4, h5, h6⟩ := rung_of A 0 E K hE hK
  rw [h6]
  have hTp : 0 < T := by rw [hT]; exact Nat.two_pow_pos _
  have hA : blen A ≤ 2098 := by
    rw [blen_le_iff, show (2098 : Nat) = 54 + J from by omega, Nat.pow_add, ← hT, show (2 : Nat) ^ 54 = 18014398509481984 from by decide]
    omega
  have hE2 : E ≤ 2045 := by rw [hE]; unfold rE; rw [Nat.div_one]; omega
  by_cases c : E = J + 1
  · have hS : rS 53 A 1 = A / (2 * T) := by
      unfold rS; rw [← hE, c, Nat.one_mul, Nat.pow_succ, ← hT, Nat.mul_comm T 2]
    have hR : rR 53 A 1 = A % (2 * T) := by
      unfold rR; rw [← hE, c, Nat.one_mul, Nat.pow_succ, ← hT, Nat.mul_comm T 2]
    have hW : 1 * 2 ^ rE 53 A 1 = 2 * T := by
      rw [← hE, c, Nat.one_mul, Nat.pow_succ, ← hT, Nat.mul_comm T 2]
    rw [hS, hR, hW] at hK
    have hdm := Nat.div_add_mod A (2 * T)
    obtain ⟨q, hq⟩ : ∃ q, q = A / (2 * T) := ⟨_, rfl⟩
    obtain ⟨r, hr⟩ : ∃ r, r = A % (2 * T) := ⟨_, rfl⟩
    rw [← hq, ← hr] at hdm hK
    have hrl : r < 2 * T := by rw [hr]; exact Nat.mod_lt _ (by omega)
    have hq1 : q < 9007199254740992 := by
      rw [hq, Nat.div_lt_iff_lt_mul (by omega)]; omega
    by_cases c2 : q = 9007199254740991
    · have hr2 : 2 * r < 2 * T := by rw [c2] at hdm; omega
      have : upw 0 q r (2 * T) = false := by
        unfold upw
        rw [if_neg (by decide), if_neg (by decide), decide_eq_false (by omega), decide_eq_false (by omega)]; rfl
      rw [this] at hK
      simp only [Bool.toNat_false, Nat.add_zero] at hK
      omega
    · have : (upw 0 q r (2 * T)).toNat ≤ 1 := Bool.toNat_le _
      omega
  · omega
/-- a number with a binade below it has a half -/
theorem vV_half (m : Nat) (h : 9007199254740992 ≤ m) : Fq.vV Ieee.double m = 2 * Fq.vV Ieee.double (m - 4503599627370496) := by
  unfold Fq.vV
  have b1 : ¬ m < 4503599627370496 := by omega
  have b2 : ¬ m - 4503599627370496 < 4503599627370496 := by omega
  have hea : Fq.eE Ieee.double m = (Fq.eE Ieee.double (m - 4503599627370496)) + 1 := by unfold Fq.eE; rw [Fq.binD, if_neg b1, if_neg b2]; omega
  have hma : Fq.mM Ieee.double m = Fq.mM Ieee.double (m - 4503599627370496) := by unfold Fq.mM; rw [Fq.binD, if_neg b1, if_neg b2]; omega
  rw [hea, hma, Nat.pow_succ, ← Nat.mul_assoc, Nat.mul_comm]
theorem vV_small (m : Nat) (h : m < 9007199254740992) : Fq.vV Ieee.double m < 9007199254740992 := by
  unfold Fq.vV Fq.eE Fq.mM
  rw [Fq.binD]
  by_cases c : m < 4503599627370496
  · rw [if_pos c, if_pos c]; simp; omega
  · rw [if_neg c, if_neg c, show m / 4503599627370496 - 1 = 0 from by omega]; simp; omega
theorem vV_top (m T J : Nat) (hJ : J = 2044) (hT : T = 2 ^ J) (h : m < 9218868437227405312) : Fq.vV Ieee.double m + 2 * T ≤ 18014398509481984 * T := by
  have h1 : Fq.vV Ieee.double m ≤ Fq.vV Ieee.double 9218868437227405311 := by
    rcases Nat.lt_or_ge m 9218868437227405311 with g | g
    · exact Nat.le_of_lt (Fq.vV_lt _ g)
    · rw [show m = 9218868437227405311 from by omega]; exact Nat.le_refl _
  have h2 : Fq.vV Ieee.double 9218868437227405311 = 9007199254740991 * (2 * T) := by
    unfold Fq.vV
    have hea : Fq.eE Ieee.double 9218868437227405311 = 2045 := by unfold Fq.eE; rw [Fq.binD]; decide
    have hma : Fq.mM Ieee.double 9218868437227405311 = 9007199254740991 := by unfold Fq.mM; rw [Fq.binD]; decide
    rw [hea, hma, show (2045 : Nat) = J + 1 from by omega, Nat.pow_succ, ← hT, Nat.mul_comm T 2]
  omega
/-- half of V of the least places, rounded to the nearest -/
def hfW (V : Int) : Nat := if V = 0 then 0 else mdW (decide (V < 0)) (finU 53 2098 9218868437227405311 9218868437227405312 0 (rU 0 53 V.natAbs 2))
theorem fin_leH (d : Int) (U : Nat) : finU 53 2098 9218868437227405311 9218868437227405312 d U ≤ 9218868437227405312 := by
  unfold finU
  split
  · next h =>
    unfold rgU
    by_cases c : U = 0
    · rw [c, blen_zero]; simp
    · obtain ⟨h1, h2, h3⟩ := blen_spec U c
      have h4 : U / 2 ^ (blen U - 53) < 9007199254740992 := by
        have := blen_shr U (blen U - 53)
        have h5 : blen (U / 2 ^ (blen U - 53)) ≤ 53 := by omega
        rw [blen_le_iff, show (2 : Nat) ^ 53 = 9007199254740992 from by decide] at h5
        exact h5
      rw [show (2 : Nat) ^ (53 - 1) = 4503599627370496 from by decide]
      omega
  · split <;> omega
/-- the quick way to a half -/
theorem half_math (n n' : Bool) (m m' : Nat) (h : m < 9218868437227405312) (h' : m' < 9218868437227405312) (V : Int) (hV : V = Iv n m + Iv n' m') :
    ∃ s r, r ≤ 9218868437227405312 ∧ FloatKind.f64.format.add (Fq.wD n m) (Fq.wD n' m') = some (Fq.wD s r) ∧
      (r ≠ 9218868437227405312 → ∃ r2, r2 < 9223372036854775808 ∧ FloatKind.f64.format.div (Fq.wD s r) 4611686018427387904 = some (Fq.wD s r2) ∧ Fq.wD (s && !(r2 == 0)) r2 = hfW V) ∧
      (r = 9218868437227405312 → ∃ a b, FloatKind.f64.format.div (Fq.wD n m) 4611686018427387904 = some a ∧ FloatKind.f64.format.div (Fq.wD n' m') 4611686018427387904 = some b ∧ FloatKind.f64.format.add a b = some (hfW V)) := by
  have ha := add_w n n' m m' h h' V hV
  obtain ⟨s, hs⟩ : ∃ s, s = (if V = 0 then n && n' else decide (V < 0)) := ⟨_, rfl⟩
  obtain ⟨r, hr⟩ : ∃ r, r = finU 53 2098 9218868437227405311 9218868437227405312 0 (rU 0 53 V.natAbs 1) := ⟨_, rfl⟩
  rw [← hs, ← hr] at ha
  refine ⟨s, r, by rw [hr]; exact fin_leH _ _, ha, ?_, ?_⟩
  · intro hne
    have hb : blen (rU 0 53 V.natAbs 1) ≤ 2098 := by
      rcases Nat.lt_or_ge 2098 (blen (rU 0 53 V.natAbs 1)) with g | g
      · exfalso; apply hne; rw [hr]; unfold finU; rw [if_neg (by omega), if_neg (by decide)]
      · exact g
    have hr2 : r = rgU 53 (rU 0 53 V.natAbs 1) := by rw [hr]; unfold finU; rw [if_pos hb]
    have hlt : r < 9218868437227405312 := by have := fin_leH 0 (rU 0 53 V.natAbs 1); rw [← hr] at this; omega
    have hd := div2_w s r hlt
    have hv : Fq.vV Ieee.double r = rU 0 53 V.natAbs 1 := by rw [hr2]; exact vV_rung _ _
    rw [hv, dbl_round] at hd
    refine ⟨_, ?_, hd, ?_⟩
    · have := fin_leH 0 (rU 0 53 V.natAbs 2); omega
    · unfold hfW
      by_cases z : V = 0
      · rw [if_pos z, z, Int.natAbs_zero]
        have h0 : rU 0 53 0 2 = 0 := by
          unfold rU rS rR
          rw [Nat.zero_div, Nat.zero_mod, upw_none _ _ _ (Nat.mul_pos (by decide) (Nat.two_pow_pos _))]
          simp
        rw [h0]
        unfold finU
        rw [blen_zero, if_pos (by omega), rgU_zero]
        simp [Fq.wD]
      · rw [if_neg z, hs, if_neg z]
        generalize finU 53 2098 9218868437227405311 9218868437227405312 0 (rU 0 53 V.natAbs 2) = x
        unfold mdW Fq.wD
        by_cases zx : x = 0
        · rw [zx]; simp
        · rw [if_neg zx]
          have : (x == 0) = false := by simp [zx]
          rw [this]; simp
  · intro he
    have hb : ¬ blen (rU 0 53 V.natAbs 1) ≤ 2098 := fun hb => by
      have hr2 : r = rgU 53 (rU 0 53 V.natAbs 1) := by rw [hr]; unfold finU; rw [if_pos hb]
      obtain ⟨h1, h2, h3, h4, h5, h6⟩ := rung_of V.natAbs 0 _ _ rfl rfl
      have := h6.1 hb
      rw [← h5, ← hr2] at this
      omega
    obtain ⟨J, hJ⟩ : ∃ J : Nat, J = 2044 := ⟨_, rfl⟩
    obtain ⟨T, hT⟩ : ∃ T : Nat, T = 2 ^ J := ⟨_, rfl⟩
    have hTb : 9007199254740992 < T := by
      rw [hT, show (9007199254740992 : Nat) = 2 ^ 53 from by decide]
      exact Nat.pow_lt_pow_right (by decide) (by omega)
    have hover : 18014398509481984 * T ≤ V.natAbs + T := by
      rcases Nat.lt_or_ge (V.natAbs + T) (18014398509481984 * T) with g | g
      · exact absurd (no_over _ T J hJ hT g) hb
      · exact g
    have v1 := vV_top m T J hJ hT h
    have v2 := vV_top m' T J hJ hT h'
    have hVa : V.natAbs ≤ Fq.vV Ieee.double m + Fq.vV Ieee.double m' := by
      rw [hV]; unfold Iv; cases n <;> cases n' <;> simp <;> omega
    have g1 : 9007199254740992 ≤ m := by
      rcases Nat.lt_or_ge m 9007199254740992 with g | g
      · have := vV_small m g; omega
      · exact g
    have g2 : 9007199254740992 ≤ m' := by
      rcases Nat.lt_or_ge m' 9007199254740992 with g | g
      · have := vV_small m' g; omega
      · exact g
    have q1 := vV_half m g1
    have q2 := vV_half m' g2
    have half : ∀ (n : Bool) (m : Nat), m < 9218868437227405312 → 9007199254740992 ≤ m → FloatKind.f64.format.div (Fq.wD n m) 4611686018427387904 = some (Fq.wD n (m - 4503599627370496)) := fun n m h g => by
      have hd := div2_w n m h
      have e : rU 0 53 (Fq.vV Ieee.double m) 2 = Fq.vV Ieee.double (m - 4503599627370496) := by
        rw [rU_ratio 0 53 (Fq.vV Ieee.double m) 2 (Fq.vV Ieee.double (m - 4503599627370496)) 1 (by decide) (by decide) (by rw [vV_half m g, Nat.mul_one, Nat.mul_comm])]
        exact rU_vV 0 _ (by omega)
      rw [e, fin_vV 0 _ (by omega)] at hd
      exact hd
    refine ⟨_, _, half n m h g1, half n' m' h' g2, ?_⟩
    obtain ⟨W, hW⟩ : ∃ W : Int, W = Iv n (m - 4503599627370496) + Iv n' (m' - 4503599627370496) := ⟨_, rfl⟩
    have hW2 : V = 2 * W := by
      rw [hV, hW]; unfold Iv; rw [q1, q2]; cases n <;> cases n' <;> simp <;> omega
    rw [add_w n n' _ _ (by omega) (by omega) W hW]
    have hW0 : W ≠ 0 := by omega
    have hV0 : V ≠ 0 := by omega
    unfold hfW
    rw [if_neg hW0, if_neg hV0]
    have e : rU 0 53 V.natAbs 2 = rU 0 53 W.natAbs 1 := by
      apply rU_ratio _ _ _ _ _ _ (by decide) (by decide)
      have : V.natAbs = 2 * W.natAbs := by omega
      rw [this]; omega
    rw [e, show decide (V < 0) = decide (W < 0) from by congr 1; apply propext; omega]
    have hx : finU 53 2098 9218868437227405311 9218868437227405312 0 (rU 0 53 W.natAbs 1) ≠ 0 := by
      have hU := rung_of W.natAbs 0 _ _ rfl rfl
      unfold finU
      by_cases c : blen (rU 0 53 W.natAbs 1) ≤ 2098
      · rw [if_pos c]
        intro hz
        have hv := vV_rung W.natAbs 0
        rw [hz, Fq.vV_zero] at hv
        have hn := rn_nr W.natAbs
        have hw : 9007199254740992 ≤ W.natAbs := by omega
        have hnz := hn.nearest (B := 0) FL.zero
        rw [← hv] at hnz
        exact absurd hv (by
          intro hv0
          have h1 := hU.1
          rw [← hv0] at h1
          have h4 := hU.2.2.2.1
          have h3 := hU.2.2.1
          have hp := Nat.two_pow_pos (rE 53 W.natAbs 1)
          rcases Nat.mul_eq_zero.1 h1.symm with g | g
          · have : rE 53 W.natAbs 1 = 0 := by omega
            have hw2 : ¬ blen W.natAbs ≤ 53 := by rw [blen_le_iff, show (2 : Nat) ^ 53 = 9007199254740992 from by decide]; omega
            unfold rE at this
            rw [Nat.div_one] at this
            omega
          · omega)
      · rw [if_neg c, if_neg (by decide)]; decide
    unfold mdW Fq.wD
    rw [if_neg hx]
end Go.Proofs.Ytnjbheammpdjfaa
