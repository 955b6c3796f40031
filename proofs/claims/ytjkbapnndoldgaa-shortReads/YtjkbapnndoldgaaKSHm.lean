import Derived.Test.YtjkbapnndoldgaaKMR31
import Derived.Test.YtjkbapnndoldgaaKNRm
import Derived.Test.YtjkbapnndoldgaaKSHn
namespace Go.Proofs.Ytjkbapnndoldgaa
open Go.RowKit

set_option linter.unusedVariables false
@[irreducible] def k9 : Nat := 925
theorem k9_eq : k9 = 925 := by unfold k9; rfl
theorem vS_place (E S : Nat) (h1 : S ≤ 2 ^ 24) (h2 : E = 0 ∨ 2 ^ (24 - 1) ≤ S) : Fq.vV Ieee.single (E * 2 ^ (24 - 1) + S) = S * 2 ^ E := by
  have hb : Ieee.single.binade = 8388608 := by decide
  have p1 : (2 : Nat) ^ (24 - 1) = 8388608 := by decide
  have p2 : (2 : Nat) ^ 24 = 16777216 := by decide
  rw [p1] at h2 ⊢
  rw [p2] at h1
  unfold Fq.vV Fq.mM Fq.eE
  rw [hb]
  by_cases c : E * 8388608 + S < 8388608
  · have hE : E = 0 := by omega
    rw [if_pos c, if_pos c, hE]; simp
  · rw [if_neg c, if_neg c]
    by_cases c2 : S = 16777216
    · rw [show (E * 8388608 + S) / 8388608 - 1 = E + 1 from by omega, show (E * 8388608 + S) % 8388608 = 0 from by omega, Nat.pow_succ, c2]
      generalize 2 ^ E = P
      omega
    · rw [show (E * 8388608 + S) / 8388608 - 1 = E from by omega, show 8388608 + (E * 8388608 + S) % 8388608 = S from by omega]
theorem mS_lt (m : Nat) : Fq.mM Ieee.single m < 16777216 := by
  unfold Fq.mM
  rw [Fq.binS]
  split <;> omega
theorem eS_le (m : Nat) (h : m < 2139095040) : Fq.eE Ieee.single m ≤ 253 := by
  unfold Fq.eE
  rw [Fq.binS]
  split <;> omega
def wdR (m : Nat) : Nat := if m = 2139095040 then 9218868437227405312 else rgU 53 (Fq.vV Ieee.single m * 2 ^ k9)
theorem wd_rep (d : Int) (m : Nat) : rU d 53 (Fq.vV Ieee.single m * 2 ^ k9) 1 = Fq.vV Ieee.single m * 2 ^ k9 := by
  have h := mS_lt m
  unfold Fq.vV
  rw [Nat.mul_assoc, ← Nat.pow_add]
  exact rU_rep d _ _ (by omega)
theorem wd_val (m : Nat) (h : m < 2139095040) : Fq.vV Ieee.double (wdR m) = Fq.vV Ieee.single m * 2 ^ k9 := by
  unfold wdR
  rw [if_neg (by omega)]
  have h1 := vV_rung (Fq.vV Ieee.single m * 2 ^ k9) 0
  rw [wd_rep] at h1
  exact h1
theorem wd_blen (m : Nat) (h : m < 2139095040) : blen (Fq.vV Ieee.single m * 2 ^ k9) ≤ 2098 := by
  have h1 := mS_lt m
  have h2 := eS_le m h
  have hk := k9_eq
  rw [blen_le_iff]
  unfold Fq.vV
  generalize Fq.mM Ieee.single m = x at h1 ⊢
  generalize Fq.eE Ieee.single m = y at h2 ⊢
  obtain ⟨J, hJ⟩ : ∃ J : Nat, J = 2098 := ⟨_, rfl⟩
  rw [← hJ]
  calc x * 2 ^ y * 2 ^ k9 ≤ 2 ^ 24 * 2 ^ y * 2 ^ k9 := Nat.mul_le_mul_right _ (Nat.mul_le_mul_right _ (by rw [show (2 : Nat) ^ 24 = 16777216 from by decide]; omega))
    _ = 2 ^ (24 + y + k9) := by rw [Nat.pow_add, Nat.pow_add]
    _ < 2 ^ J := Nat.pow_lt_pow_right (by decide) (by omega)
theorem wd_lt (m : Nat) (h : m < 2139095040) : wdR m < 9218868437227405312 := by
  obtain ⟨E, hE⟩ : ∃ E, E = rE 53 (Fq.vV Ieee.single m * 2 ^ k9) 1 := ⟨_, rfl⟩
  obtain ⟨K, hK⟩ : ∃ K, K = rS 53 (Fq.vV Ieee.single m * 2 ^ k9) 1 + (upw 0 (rS 53 (Fq.vV Ieee.single m * 2 ^ k9) 1) (rR 53 (Fq.vV Ieee.single m * 2 ^ k9) 1) (1 * 2 ^ rE 53 (Fq.vV Ieee.single m * 2 ^ k9) 1)).toNat := ⟨_, rfl⟩
  obtain ⟨_, _, _, _, h5, h6⟩ := rung_of (Fq.vV Ieee.single m * 2 ^ k9) 0 E K hE hK
  rw [wd_rep] at h5 h6
  unfold wdR
  rw [if_neg (by omega), h5]
  exact h6.1 (wd_blen m h)
theorem wd_lt_iff (m m' : Nat) (h : m ≤ 2139095040) (h' : m' ≤ 2139095040) : wdR m < wdR m' ↔ m < m' := by
  have hp := Nat.two_pow_pos k9
  by_cases c : m = 2139095040
  · subst c
    have e : wdR 2139095040 = 9218868437227405312 := by unfold wdR; rw [if_pos rfl]
    rw [e]
    by_cases c' : m' = 2139095040
    · subst c'; rw [e]; omega
    · have := wd_lt m' (by omega); omega
  · by_cases c' : m' = 2139095040
    · subst c'
      have e : wdR 2139095040 = 9218868437227405312 := by unfold wdR; rw [if_pos rfl]
      have := wd_lt m (by omega)
      rw [e]; omega
    · rw [← Fq.vV_lt_iff Ieee.double, wd_val m (by omega), wd_val m' (by omega), Nat.mul_lt_mul_right hp, Fq.vV_lt_iff]
theorem wd_zero : wdR 0 = 0 := by
  unfold wdR
  rw [if_neg (by decide), Fq.vV_zero, Nat.zero_mul, rgU_zero]
theorem wd_inj (m m' : Nat) (h : m ≤ 2139095040) (h' : m' ≤ 2139095040) : wdR m = wdR m' ↔ m = m' := by
  have h1 := wd_lt_iff m m' h h'
  have h2 := wd_lt_iff m' m h' h
  omega
theorem wd_le (m : Nat) (h : m ≤ 2139095040) : wdR m ≤ 9218868437227405312 := by
  by_cases c : m = 2139095040
  · unfold wdR; rw [if_pos c]
    exact Nat.le_refl _
  · have := wd_lt m (by omega); omega
def wz (z : Int) : Int := if z < 0 then -((wdR z.natAbs : Nat) : Int) else ((wdR z.natAbs : Nat) : Int)
theorem wz_lt (x y : Int) (hx : Sg.BdZ x) (hy : Sg.BdZ y) : wz x < wz y ↔ x < y := by
  unfold Sg.BdZ at hx hy
  unfold wz
  have a1 := wd_lt_iff x.natAbs y.natAbs (by omega) (by omega)
  have a2 := wd_lt_iff y.natAbs x.natAbs (by omega) (by omega)
  have a3 := wd_inj x.natAbs 0 (by omega) (by omega)
  have a4 := wd_inj y.natAbs 0 (by omega) (by omega)
  rw [wd_zero] at a3 a4
  split <;> split <;> omega
theorem wz_inj (x y : Int) (hx : Sg.BdZ x) (hy : Sg.BdZ y) : wz x = wz y ↔ x = y := by
  have a := wz_lt x y hx hy
  have b := wz_lt y x hy hx
  omega
theorem wz_le (x y : Int) (hx : Sg.BdZ x) (hy : Sg.BdZ y) : wz x ≤ wz y ↔ x ≤ y := by
  have b := wz_lt y x hy hx
  omega
theorem wz_I : wz 2139095040 = 9218868437227405312 := by
  unfold wz wdR
  rw [if_neg (by omega), show (2139095040 : Int).natAbs = 2139095040 from rfl, if_pos rfl]
  rfl
theorem wz_MI : wz (-2139095040) = -9218868437227405312 := by
  unfold wz wdR
  rw [if_pos (by omega), show (-2139095040 : Int).natAbs = 2139095040 from rfl, if_pos rfl]
  rfl
theorem wz_bd (z : Int) (h : Sg.BdZ z) : BdZ (wz z) := by
  unfold Sg.BdZ at h
  have := wd_le z.natAbs (by omega)
  unfold wz BdZ
  split <;> omega
theorem wd_pw (n : Bool) (m : Nat) (hm : m ≤ 2139095040) (hz : n = true → m ≠ 0) : Fq.wD n (wdR m) = pw (wz (Fq.plz n m)) := by
  have a3 := wd_inj m 0 hm (by omega)
  rw [wd_zero] at a3
  cases n
  · have e : Fq.plz false m = (m : Int) := by simp [Fq.plz]
    rw [e]; unfold pw wz
    rw [if_neg (show ¬ (m : Int) < 0 by omega), Int.natAbs_natCast, show decide (((wdR m : Nat) : Int) < 0) = false from decide_eq_false (by omega), Int.natAbs_natCast]
  · have h0 := hz rfl
    have h1 : wdR m ≠ 0 := fun h => h0 (a3.1 h)
    have e : Fq.plz true m = -(m : Int) := by simp [Fq.plz]
    rw [e]; unfold pw wz
    rw [if_pos (show -(m : Int) < 0 by omega), Int.natAbs_neg, Int.natAbs_natCast, show decide (-((wdR m : Nat) : Int) < 0) = true from decide_eq_true (by omega), Int.natAbs_neg, Int.natAbs_natCast]
end Go.Proofs.Ytjkbapnndoldgaa
