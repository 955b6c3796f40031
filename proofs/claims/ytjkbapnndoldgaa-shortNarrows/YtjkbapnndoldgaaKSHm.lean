import Derived.Test.YtjkbapnndoldgaaKMR30
import Derived.Test.YtjkbapnndoldgaaKNRm
import Derived.Test.YtjkbapnndoldgaaKSHn
namespace Go.Proofs.Ytjkbapnndoldgaa
open Go.RowKit

set_option linter.unusedVariables false
@[irreducible] def k9 : Nat := 925
theorem k9_eq : k9 = 925 := by unfold k9; rfl
theorem wdS9 (n : Bool) (r : Nat) : Ieee.single.word n r = Fq.wS n r := by unfold Ieee.Format.word Fq.wS; rw [Fq.signS]
theorem lpS9 : Ieee.single.leastPlace = -149 := by decide +kernel
theorem fbS9 : Ieee.single.fractionBits = 23 := rfl
theorem rung_ofS (A : Nat) (d : Int) (E K : Nat) (hE : E = rE 24 A 1) (hK : K = rS 24 A 1 + (upw d (rS 24 A 1) (rR 24 A 1) (1 * 2 ^ rE 24 A 1)).toNat) : rU d 24 A 1 = K * 2 ^ E ∧ K ≤ 16777216 ∧ (E = 0 → K < 16777216) ∧ (E = 0 ∨ 8388608 ≤ K) ∧ rgU 24 (rU d 24 A 1) = E * 8388608 + K ∧ (blen (rU d 24 A 1) ≤ 277 ↔ E * 8388608 + K < 2139095040) := by
  obtain ⟨h1, h2⟩ := rE_spec 24 A 1 (by omega) (by omega)
  have hU : rU d 24 A 1 = K * 2 ^ E := by unfold rU; rw [← hK, ← hE]
  rw [← hE] at h1 h2
  rw [Nat.one_mul, Nat.pow_add, show (2 : Nat) ^ 24 = 16777216 from by decide] at h1
  have hTp : 0 < 2 ^ E := Nat.two_pow_pos E
  have hSq : rS 24 A 1 = A / 2 ^ E := by unfold rS; rw [← hE, Nat.one_mul]
  have hRq : rR 24 A 1 = A % 2 ^ E := by unfold rR; rw [← hE, Nat.one_mul]
  have hS1 : rS 24 A 1 < 16777216 := by rw [hSq, Nat.div_lt_iff_lt_mul hTp, Nat.mul_comm]; exact h1
  have hS2 : E = 0 ∨ 8388608 ≤ rS 24 A 1 := by
    rcases h2 with h | h
    · exact Or.inl h
    · right
      rw [Nat.one_mul, show E + 24 - 1 = 23 + E from by omega, Nat.pow_add, show (2 : Nat) ^ 23 = 8388608 from by decide] at h
      rw [hSq, Nat.le_div_iff_mul_le hTp]
      exact h
  have hb : (upw d (rS 24 A 1) (rR 24 A 1) (1 * 2 ^ rE 24 A 1)).toNat ≤ 1 := Bool.toNat_le _
  have hK1 : K ≤ 16777216 := by omega
  have hK0 : E = 0 → K < 16777216 := fun h => by
    have h0 : rR 24 A 1 = 0 := by rw [hRq, h, Nat.pow_zero, Nat.mod_one]
    rw [h0, upw_none _ _ _ (by rw [Nat.one_mul]; exact Nat.two_pow_pos _)] at hK
    simp at hK
    omega
  have hK2 : E = 0 ∨ 8388608 ≤ K := by omega
  refine ⟨hU, hK1, hK0, hK2, ?_⟩
  rw [hU]
  by_cases c0 : K = 0
  · have hE0 : E = 0 := by omega
    rw [c0, hE0, Nat.zero_mul, rgU_zero, blen_zero]
    omega
  · by_cases c1 : K = 16777216
    · have hp : 0 < E := by
        rcases Nat.eq_zero_or_pos E with h | h
        · exact absurd (hK0 h) (by omega)
        · exact h
      have e1 : K * 2 ^ E = 8388608 * 2 ^ (E + 1) := by rw [c1, Nat.pow_succ]; omega
      have b1 : blen 8388608 = 24 := by
        have := blen_uniq 8388608 23 (by decide) (by decide)
        exact this
      rw [e1, rgU_mul 24 8388608 (E + 1) 0 (by decide) (by rw [b1]; omega) (by rw [b1]; omega), blen_mul _ _ (by decide), b1, show (2 : Nat) ^ (24 - 1) = 8388608 from by decide, Nat.pow_zero, Nat.mul_one, c1]
      constructor
      · omega
      · omega
    · have hlt : K < 16777216 := by omega
      by_cases c2 : E = 0
      · rw [c2, Nat.pow_zero, Nat.mul_one]
        have hb2 : blen K ≤ 24 := by rw [blen_le_iff, show (2 : Nat) ^ 24 = 16777216 from by decide]; exact hlt
        have : rgU 24 K = K := by
          unfold rgU
          rw [show blen K - 24 = 0 from by omega, Nat.zero_mul, Nat.pow_zero, Nat.div_one, Nat.zero_add]
        rw [this]
        omega
      · have hge : 8388608 ≤ K := by omega
        have b1 : blen K = 24 := by
          have hb2 : blen K ≤ 24 := by rw [blen_le_iff, show (2 : Nat) ^ 24 = 16777216 from by decide]; exact hlt
          have hb3 : ¬ blen K ≤ 23 := by rw [blen_le_iff, show (2 : Nat) ^ 23 = 8388608 from by decide]; omega
          omega
        rw [rgU_mul 24 K E 0 c0 (by rw [b1]; omega) (by omega), blen_mul _ _ c0, b1, show (2 : Nat) ^ (24 - 1) = 8388608 from by decide, Nat.pow_zero, Nat.mul_one]
        constructor
        · omega
        · omega
theorem rung_ofBS (A B : Nat) (hB : 0 < B) (d : Int) (E K : Nat) (hE : E = rE 24 A B) (hK : K = rS 24 A B + (upw d (rS 24 A B) (rR 24 A B) (B * 2 ^ rE 24 A B)).toNat) : rU d 24 A B = K * 2 ^ E ∧ K ≤ 16777216 ∧ rgU 24 (rU d 24 A B) = E * 8388608 + K ∧ (blen (rU d 24 A B) ≤ 277 ↔ E * 8388608 + K < 2139095040) := by
  obtain ⟨h1, h2⟩ := rE_spec 24 A B hB (by omega)
  have hU : rU d 24 A B = K * 2 ^ E := by unfold rU; rw [← hK, ← hE]
  rw [← hE] at h1 h2
  have hTp : 0 < B * 2 ^ E := Nat.mul_pos hB (Nat.two_pow_pos E)
  rw [Nat.pow_add, ← Nat.mul_assoc, show (2 : Nat) ^ 24 = 16777216 from by decide] at h1
  have hSq : rS 24 A B = A / (B * 2 ^ E) := by unfold rS; rw [← hE]
  have hS1 : rS 24 A B < 16777216 := by rw [hSq, Nat.div_lt_iff_lt_mul hTp, Nat.mul_comm]; exact h1
  have hS2 : E = 0 ∨ 8388608 ≤ rS 24 A B := by
    rcases h2 with h | h
    · exact Or.inl h
    · right
      rw [show E + 24 - 1 = E + 23 from by omega, Nat.pow_add, ← Nat.mul_assoc, show (2 : Nat) ^ 23 = 8388608 from by decide] at h
      rw [hSq, Nat.le_div_iff_mul_le hTp, Nat.mul_comm]
      exact h
  have hb : (upw d (rS 24 A B) (rR 24 A B) (B * 2 ^ rE 24 A B)).toNat ≤ 1 := Bool.toNat_le _
  have hK1 : K ≤ 16777216 := by omega
  have hK2 : E = 0 ∨ 8388608 ≤ K := by omega
  refine ⟨hU, hK1, ?_⟩
  rw [hU]
  by_cases c0 : K = 0
  · have hE0 : E = 0 := by omega
    rw [c0, hE0, Nat.zero_mul, rgU_zero, blen_zero]
    omega
  · by_cases c1 : K = 16777216
    · have e1 : K * 2 ^ E = 8388608 * 2 ^ (E + 1) := by rw [c1, Nat.pow_succ]; omega
      have b1 : blen 8388608 = 24 := by
        have := blen_uniq 8388608 23 (by decide) (by decide)
        exact this
      rw [e1, rgU_mul 24 8388608 (E + 1) 0 (by decide) (by rw [b1]; omega) (by rw [b1]; omega), blen_mul _ _ (by decide), b1, show (2 : Nat) ^ (24 - 1) = 8388608 from by decide, Nat.pow_zero, Nat.mul_one, c1]
      constructor
      · omega
      · omega
    · have hlt : K < 16777216 := by omega
      by_cases c2 : E = 0
      · rw [c2, Nat.pow_zero, Nat.mul_one]
        have hb2 : blen K ≤ 24 := by rw [blen_le_iff, show (2 : Nat) ^ 24 = 16777216 from by decide]; exact hlt
        have : rgU 24 K = K := by
          unfold rgU
          rw [show blen K - 24 = 0 from by omega, Nat.zero_mul, Nat.pow_zero, Nat.div_one, Nat.zero_add]
        rw [this]
        omega
      · have hge : 8388608 ≤ K := by omega
        have b1 : blen K = 24 := by
          have hb2 : blen K ≤ 24 := by rw [blen_le_iff, show (2 : Nat) ^ 24 = 16777216 from by decide]; exact hlt
          have hb3 : ¬ blen K ≤ 23 := by rw [blen_le_iff, show (2 : Nat) ^ 23 = 8388608 from by decide]; omega
          omega
        rw [rgU_mul 24 K E 0 c0 (by rw [b1]; omega) (by omega), blen_mul _ _ c0, b1, show (2 : Nat) ^ (24 - 1) = 8388608 from by decide, Nat.pow_zero, Nat.mul_one]
        constructor
        · omega
        · omega

open Ieee in
theorem near_s1 (neg : Bool) (mag : Nat) (place : Int) (t : Nat) (ht : (t : Int) = place + 149) : Ieee.single.nearest neg mag place = Fq.wS neg (finU 24 277 2139095039 2139095040 0 (rU 0 24 (mag * 2 ^ t) 1)) := by
  by_cases c : mag = 0
  · unfold Ieee.Format.nearest
    rw [if_pos c, wdS9, c, Nat.zero_mul]
    have h0 : rU 0 24 0 1 = 0 := by
      unfold rU rS rR
      rw [Nat.zero_div, Nat.zero_mod, upw_none _ _ _ (by rw [Nat.one_mul]; exact Nat.two_pow_pos _)]
      simp
    rw [h0]
    unfold finU
    rw [blen_zero, if_pos (by omega), rgU_zero]
  · rw [nearest_def _ _ _ _ c, wdS9, lpS9, fbS9, Fq.binS, Fq.infS]
    obtain ⟨A, hA⟩ : ∃ A, A = mag * 2 ^ t := ⟨_, rfl⟩
    have hbA : blen A = mag.log2 + 1 + t := by rw [hA, blen_mul _ _ c, log2_blen mag c]
    obtain ⟨E, hE⟩ : ∃ E, E = rE 24 A 1 := ⟨_, rfl⟩
    have hE2 : E = mag.log2 + t - 23 := by rw [hE]; unfold rE; rw [Nat.div_one, hbA]; omega
    obtain ⟨last, hl⟩ : ∃ last : Int, last = max (place + (mag.log2 : Nat) - ((23 : Nat) : Int)) (-149) := ⟨_, rfl⟩
    have hlE : (E : Int) = last + 149 := by rw [hl]; omega
    obtain ⟨K, hK⟩ : ∃ K, K = rS 24 A 1 + (upw 0 (rS 24 A 1) (rR 24 A 1) (1 * 2 ^ rE 24 A 1)).toNat := ⟨_, rfl⟩
    have hkept : Ieee.Toward.even.cut neg (mag <<< (place - last).toNat) (last - place).toNat = K := by
      rw [cut_even, hK]
      unfold rS rR
      rw [← hE, Nat.one_mul, Nat.shiftLeft_eq]
      by_cases c1 : E ≤ t
      · rw [show (place - last).toNat = t - E from by omega, show (last - place).toNat = 0 from by omega, Nat.pow_zero, Nat.div_one, Nat.mod_one, upw_none _ _ _ (by omega)]
        have e1 : A = mag * 2 ^ (t - E) * 2 ^ E := by rw [hA, Nat.mul_assoc, ← Nat.pow_add]; congr 2; omega
        rw [e1, Nat.mul_div_cancel _ (Nat.two_pow_pos E), Nat.mul_mod_left, upw_none _ _ _ (Nat.two_pow_pos E)]
      · rw [show (place - last).toNat = 0 from by omega, show (last - place).toNat = E - t from by omega, Nat.pow_zero, Nat.mul_one]
        have e1 : 2 ^ E = 2 ^ (E - t) * 2 ^ t := by rw [← Nat.pow_add]; congr 1; omega
        rw [hA, e1, Nat.mul_div_mul_right _ _ (Nat.two_pow_pos t), Nat.mul_mod_mul_right, upw_scale _ _ _ _ _ (Nat.two_pow_pos t)]
    rw [← hl]
    rw [hkept, show (last - (-149)).toNat = E from by omega, ← hA]
    obtain ⟨_, _, _, _, h5, h6⟩ := rung_ofS A 0 E K hE hK
    unfold finU
    congr 1
    by_cases c2 : blen (rU 0 24 A 1) ≤ 277
    · rw [if_pos c2, h5]; exact Nat.min_eq_left (Nat.le_of_lt (h6.1 c2))
    · rw [if_neg c2, if_neg (by decide)]
      exact Nat.min_eq_right (Nat.le_of_not_lt (fun h => c2 (h6.2 h)))
open Ieee in
theorem near_s2 (neg : Bool) (mag : Nat) (place : Int) (k : Nat) (hk : place + 149 = -(k : Int)) : Ieee.single.nearest neg mag place = Fq.wS neg (finU 24 277 2139095039 2139095040 0 (rU 0 24 mag (2 ^ k))) := by
  have hkp := Nat.two_pow_pos k
  by_cases c : mag = 0
  · unfold Ieee.Format.nearest
    rw [if_pos c, wdS9, c]
    have h0 : rU 0 24 0 (2 ^ k) = 0 := by
      unfold rU rS rR
      rw [Nat.zero_div, Nat.zero_mod, upw_none _ _ _ (Nat.mul_pos hkp (Nat.two_pow_pos _))]
      simp
    rw [h0]
    unfold finU
    rw [blen_zero, if_pos (by omega), rgU_zero]
  · rw [nearest_def _ _ _ _ c, wdS9, lpS9, fbS9, Fq.binS, Fq.infS]
    have hbA : blen mag = mag.log2 + 1 := log2_blen mag c
    obtain ⟨E, hE⟩ : ∃ E, E = rE 24 mag (2 ^ k) := ⟨_, rfl⟩
    have hE2 : E = mag.log2 + 1 - k - 24 := by rw [hE]; unfold rE; rw [blen_shr, hbA]
    obtain ⟨last, hl⟩ : ∃ last : Int, last = max (place + (mag.log2 : Nat) - ((23 : Nat) : Int)) (-149) := ⟨_, rfl⟩
    have hlE : (E : Int) = last + 149 := by rw [hl]; omega
    obtain ⟨K, hK⟩ : ∃ K, K = rS 24 mag (2 ^ k) + (upw 0 (rS 24 mag (2 ^ k)) (rR 24 mag (2 ^ k)) (2 ^ k * 2 ^ rE 24 mag (2 ^ k))).toNat := ⟨_, rfl⟩
    have hkept : Ieee.Toward.even.cut neg (mag <<< (place - last).toNat) (last - place).toNat = K := by
      rw [cut_even, hK]
      unfold rS rR
      rw [← hE, Nat.shiftLeft_eq, show (place - last).toNat = 0 from by omega, show (last - place).toNat = k + E from by omega, Nat.pow_zero, Nat.mul_one, Nat.pow_add]
    rw [← hl]
    rw [hkept, show (last - (-149)).toNat = E from by omega]
    obtain ⟨_, _, h5, h6⟩ := rung_ofBS mag (2 ^ k) hkp 0 E K hE hK
    unfold finU
    congr 1
    by_cases c2 : blen (rU 0 24 mag (2 ^ k)) ≤ 277
    · rw [if_pos c2, h5]; exact Nat.min_eq_left (Nat.le_of_lt (h6.1 c2))
    · rw [if_neg c2, if_neg (by decide)]
      exact Nat.min_eq_right (Nat.le_of_not_lt (fun h => c2 (h6.2 h)))

theorem near_s (neg : Bool) (mag : Nat) (place : Int) (t : Nat) (ht : (t : Int) = place + 1074) : Ieee.single.nearest neg mag place = Fq.wS neg (finU 24 277 2139095039 2139095040 0 (rU 0 24 (mag * 2 ^ t) (2 ^ k9))) := by
  have hk := k9_eq
  by_cases c : 0 ≤ place + 149
  · obtain ⟨s, hs⟩ : ∃ s : Nat, (s : Int) = place + 149 := ⟨(place + 149).toNat, by omega⟩
    rw [near_s1 neg mag place s hs]
    congr 2
    refine rU_ratio 0 24 _ _ _ _ (by decide) (Nat.two_pow_pos _) ?_
    rw [Nat.mul_one, Nat.mul_assoc, ← Nat.pow_add]
    congr 2
    omega
  · obtain ⟨k, hk2⟩ : ∃ k : Nat, place + 149 = -(k : Int) := ⟨(-(place + 149)).toNat, by omega⟩
    rw [near_s2 neg mag place k hk2]
    congr 2
    refine rU_ratio 0 24 _ _ _ _ (Nat.two_pow_pos _) (Nat.two_pow_pos _) ?_
    rw [Nat.mul_assoc, ← Nat.pow_add]
    congr 2
    omega
theorem vS_place (E S : Nat) (h1 : S ≤ 2 ^ 24) (h2 : E = 0 ∨ 2 ^ (24 - 1) ≤ S) : Fq.vV Ieee.single (E * 2 ^ (24 - 1) + S) = S * 2 ^ E := by
  have hb : Ieee.single.binade = 8388608 := by decide
  have p1 : (2 : Nat) ^ (24 - 1) = 8388608 := by decide
  have p2 : (2 : Nat) ^ 24 = 16777216 := by decide
  rw [p1] at h2 ⊢
  rw [p2] at h1
  unfold Fq.vV Fq.mM Fq.eE
  rw [hb]
  by_cases c : E * 8388608 + S < 8388608
  · have hE : E = 0 := by omega
    rw [if_pos c, if_pos c, hE]; simp
  · rw [if_neg c, if_neg c]
    by_cases c2 : S = 16777216
    · rw [show (E * 8388608 + S) / 8388608 - 1 = E + 1 from by omega, show (E * 8388608 + S) % 8388608 = 0 from by omega, Nat.pow_succ, c2]
      generalize 2 ^ E = P
      omega
    · rw [show (E * 8388608 + S) / 8388608 - 1 = E from by omega, show 8388608 + (E * 8388608 + S) % 8388608 = S from by omega]
theorem mS_lt (m : Nat) : Fq.mM Ieee.single m < 16777216 := by
  unfold Fq.mM
  rw [Fq.binS]
  split <;> omega
theorem eS_le (m : Nat) (h : m < 2139095040) : Fq.eE Ieee.single m ≤ 253 := by
  unfold Fq.eE
  rw [Fq.binS]
  split <;> omega
def wdR (m : Nat) : Nat := if m = 2139095040 then 9218868437227405312 else rgU 53 (Fq.vV Ieee.single m * 2 ^ k9)
theorem wd_rep (d : Int) (m : Nat) : rU d 53 (Fq.vV Ieee.single m * 2 ^ k9) 1 = Fq.vV Ieee.single m * 2 ^ k9 := by
  have h := mS_lt m
  unfold Fq.vV
  rw [Nat.mul_assoc, ← Nat.pow_add]
  exact rU_rep d _ _ (by omega)
theorem wd_val (m : Nat) (h : m < 2139095040) : Fq.vV Ieee.double (wdR m) = Fq.vV Ieee.single m * 2 ^ k9 := by
  unfold wdR
  rw [if_neg (by omega)]
  have h1 := vV_rung (Fq.vV Ieee.single m * 2 ^ k9) 0
  rw [wd_rep] at h1
  exact h1
theorem wd_blen (m : Nat) (h : m < 2139095040) : blen (Fq.vV Ieee.single m * 2 ^ k9) ≤ 2098 := by
  have h1 := mS_lt m
  have h2 := eS_le m h
  have hk := k9_eq
  rw [blen_le_iff]
  unfold Fq.vV
  generalize Fq.mM Ieee.single m = x at h1 ⊢
  generalize Fq.eE Ieee.single m = y at h2 ⊢
  obtain ⟨J, hJ⟩ : ∃ J : Nat, J = 2098 := ⟨_, rfl⟩
  rw [← hJ]
  calc x * 2 ^ y * 2 ^ k9 ≤ 2 ^ 24 * 2 ^ y * 2 ^ k9 := Nat.mul_le_mul_right _ (Nat.mul_le_mul_right _ (by rw [show (2 : Nat) ^ 24 = 16777216 from by decide]; omega))
    _ = 2 ^ (24 + y + k9) := by rw [Nat.pow_add, Nat.pow_add]
    _ < 2 ^ J := Nat.pow_lt_pow_right (by decide) (by omega)
theorem wd_fin (d : Int) (m : Nat) (h : m < 2139095040) : finU 53 2098 9218868437227405311 9218868437227405312 d (rU d 53 (Fq.vV Ieee.single m * 2 ^ k9) 1) = wdR m := by
  rw [wd_rep]
  unfold finU wdR
  rw [if_pos (wd_blen m h), if_neg (by omega)]
theorem wd_lt (m : Nat) (h : m < 2139095040) : wdR m < 9218868437227405312 := by
  obtain ⟨E, hE⟩ : ∃ E, E = rE 53 (Fq.vV Ieee.single m * 2 ^ k9) 1 := ⟨_, rfl⟩
  obtain ⟨K, hK⟩ : ∃ K, K = rS 53 (Fq.vV Ieee.single m * 2 ^ k9) 1 + (upw 0 (rS 53 (Fq.vV Ieee.single m * 2 ^ k9) 1) (rR 53 (Fq.vV Ieee.single m * 2 ^ k9) 1) (1 * 2 ^ rE 53 (Fq.vV Ieee.single m * 2 ^ k9) 1)).toNat := ⟨_, rfl⟩
  obtain ⟨_, _, _, _, h5, h6⟩ := rung_of (Fq.vV Ieee.single m * 2 ^ k9) 0 E K hE hK
  rw [wd_rep] at h5 h6
  unfold wdR
  rw [if_neg (by omega), h5]
  exact h6.1 (wd_blen m h)
theorem wd_lt_iff (m m' : Nat) (h : m ≤ 2139095040) (h' : m' ≤ 2139095040) : wdR m < wdR m' ↔ m < m' := by
  have hp := Nat.two_pow_pos k9
  by_cases c : m = 2139095040
  · subst c
    have e : wdR 2139095040 = 9218868437227405312 := by unfold wdR; rw [if_pos rfl]
    rw [e]
    by_cases c' : m' = 2139095040
    · subst c'; rw [e]; omega
    · have := wd_lt m' (by omega); omega
  · by_cases c' : m' = 2139095040
    · subst c'
      have e : wdR 2139095040 = 9218868437227405312 := by unfold wdR; rw [if_pos rfl]
      have := wd_lt m (by omega)
      rw [e]; omega
    · rw [← Fq.vV_lt_iff Ieee.double, wd_val m (by omega), wd_val m' (by omega), Nat.mul_lt_mul_right hp, Fq.vV_lt_iff]
theorem wd_zero : wdR 0 = 0 := by
  unfold wdR
  rw [if_neg (by decide), Fq.vV_zero, Nat.zero_mul, rgU_zero]
theorem wd_inj (m m' : Nat) (h : m ≤ 2139095040) (h' : m' ≤ 2139095040) : wdR m = wdR m' ↔ m = m' := by
  have h1 := wd_lt_iff m m' h h'
  have h2 := wd_lt_iff m' m h' h
  omega
theorem wd_le (m : Nat) (h : m ≤ 2139095040) : wdR m ≤ 9218868437227405312 := by
  by_cases c : m = 2139095040
  · unfold wdR; rw [if_pos c]
    exact Nat.le_refl _
  · have := wd_lt m (by omega); omega
def wz (z : Int) : Int := if z < 0 then -((wdR z.natAbs : Nat) : Int) else ((wdR z.natAbs : Nat) : Int)
theorem wz_lt (x y : Int) (hx : Sg.BdZ x) (hy : Sg.BdZ y) : wz x < wz y ↔ x < y := by
  unfold Sg.BdZ at hx hy
  unfold wz
  have a1 := wd_lt_iff x.natAbs y.natAbs (by omega) (by omega)
  have a2 := wd_lt_iff y.natAbs x.natAbs (by omega) (by omega)
  have a3 := wd_inj x.natAbs 0 (by omega) (by omega)
  have a4 := wd_inj y.natAbs 0 (by omega) (by omega)
  rw [wd_zero] at a3 a4
  split <;> split <;> omega
theorem wz_inj (x y : Int) (hx : Sg.BdZ x) (hy : Sg.BdZ y) : wz x = wz y ↔ x = y := by
  have a := wz_lt x y hx hy
  have b := wz_lt y x hy hx
  omega
theorem wz_le (x y : Int) (hx : Sg.BdZ x) (hy : Sg.BdZ y) : wz x ≤ wz y ↔ x ≤ y := by
  have b := wz_lt y x hy hx
  omega
theorem wz_bd (z : Int) (h : Sg.BdZ z) : BdZ (wz z) := by
  unfold Sg.BdZ at h
  have := wd_le z.natAbs (by omega)
  unfold wz BdZ
  split <;> omega
theorem wz_neg (z : Int) : wz (-z) = -wz z := by
  unfold wz
  rw [Int.natAbs_neg]
  by_cases c : z = 0
  · subst c
    have := wd_zero
    simp [this]
  · split <;> split <;> omega
theorem wd_pw (n : Bool) (m : Nat) (hm : m ≤ 2139095040) (hz : n = true → m ≠ 0) : Fq.wD n (wdR m) = pw (wz (Fq.plz n m)) := by
  have a3 := wd_inj m 0 hm (by omega)
  rw [wd_zero] at a3
  cases n
  · have e : Fq.plz false m = (m : Int) := by simp [Fq.plz]
    rw [e]; unfold pw wz
    rw [if_neg (show ¬ (m : Int) < 0 by omega), Int.natAbs_natCast, show decide (((wdR m : Nat) : Int) < 0) = false from decide_eq_false (by omega), Int.natAbs_natCast]
  · have h0 := hz rfl
    have h1 : wdR m ≠ 0 := fun h => h0 (a3.1 h)
    have e : Fq.plz true m = -(m : Int) := by simp [Fq.plz]
    rw [e]; unfold pw wz
    rw [if_pos (show -(m : Int) < 0 by omega), Int.natAbs_neg, Int.natAbs_natCast, show decide (-((wdR m : Nat) : Int) < 0) = true from decide_eq_true (by omega), Int.natAbs_neg, Int.natAbs_natCast]
end Go.Proofs.Ytjkbapnndoldgaa
