import Derived.Test.YtbdeppdjelcioaaDoorM
import Derived.Test.YtbdeppdjelcioaaDoorM5
import Derived.Test.YtbdeppdjelcioaaDoorM6
import Derived.Laws.FloatArith
namespace Go.Proofs.YtbdeppdjelcioaaDoor
open Go.RowKit
open Ieee

theorem vV_upto (f : Format) (q k : Nat) (h1 : f.binade ≤ k) (h2 : k ≤ 2 * f.binade) : vV f (q * f.binade + k) = k * 2 ^ q := by
  have hB := binade_pos f
  by_cases c : k < 2 * f.binade
  · exact vV_of f q k h1 c
  · have e : k = 2 * f.binade := by omega
    subst e
    have := vV_of f (q + 1) f.binade (Nat.le_refl _) (by omega)
    rw [show q * f.binade + 2 * f.binade = (q + 1) * f.binade + f.binade from by rw [Nat.add_mul]; omega, this, Nat.pow_succ, Nat.mul_comm (2 ^ q) 2, ← Nat.mul_assoc, Nat.mul_comm f.binade 2]

/-- the quotient, rounded to the nearest, ties to the even one -/
def evn (mag d : Nat) : Nat := mag / 2 ^ d + (decide (2 ^ d < 2 * (mag % 2 ^ d)) || (decide (2 ^ d = 2 * (mag % 2 ^ d)) && decide (mag / 2 ^ d % 2 = 1))).toNat

theorem cut_even (neg : Bool) (mag d : Nat) (h : d ≤ mag.log2 + 2) : Toward.even.cut neg mag d = evn mag d := by
  unfold Toward.cut evn
  rw [Nat.min_eq_left h, Nat.shiftLeft_eq, Nat.one_mul]
  rfl

/-- an integer with more bits than a significand -/
theorem near_wide (f : Format) (neg : Bool) (mag : Nat) (h0 : 2 ^ (f.fractionBits + 1) ≤ mag) (hl : f.leastPlace ≤ 0) (hi : mag.log2 + (-f.leastPlace).toNat + 3 ≤ 2 ^ f.exponentBits - 1) :
    ∃ d : Nat, d = mag.log2 - f.fractionBits ∧ 0 < d ∧ f.binade ≤ mag / 2 ^ d ∧ mag / 2 ^ d < 2 * f.binade ∧ nrung f neg mag < f.infRung ∧ vV f (nrung f neg mag) = evn mag d * 2 ^ (d + (-f.leastPlace).toNat) := by
  have hp := Nat.two_pow_pos (f.fractionBits + 1)
  have hm : mag ≠ 0 := by omega
  have hL : f.fractionBits + 1 ≤ mag.log2 := (Nat.le_log2 hm).2 h0
  have hlo := Nat.log2_self_le hm
  have hhi : mag < 2 ^ (mag.log2 + 1) := Nat.lt_log2_self
  have hBf : f.binade = 2 ^ f.fractionBits := rfl
  obtain ⟨d, hd⟩ : ∃ d : Nat, d = mag.log2 - f.fractionBits := ⟨_, rfl⟩
  have hpd := Nat.two_pow_pos d
  have k1 : f.binade ≤ mag / 2 ^ d := by
    rw [hBf]; refine (Nat.le_div_iff_mul_le hpd).2 ?_
    rw [← Nat.pow_add, show f.fractionBits + d = mag.log2 from by omega]; exact hlo
  have k2 : mag / 2 ^ d < 2 * f.binade := by
    refine (Nat.div_lt_iff_lt_mul hpd).2 ?_
    rw [hBf, Nat.mul_comm 2, ← Nat.pow_succ, ← Nat.pow_add, show f.fractionBits + 1 + d = mag.log2 + 1 from by omega]; exact hhi
  have k3 : f.binade ≤ evn mag d ∧ evn mag d ≤ 2 * f.binade := by
    unfold evn
    have := Bool.toNat_le (decide (2 ^ d < 2 * (mag % 2 ^ d)) || (decide (2 ^ d = 2 * (mag % 2 ^ d)) && decide (mag / 2 ^ d % 2 = 1)))
    omega
  have hlast : max ((0 : Int) + mag.log2 - f.fractionBits) f.leastPlace = (d : Int) := by omega
  obtain ⟨q, hq⟩ : ∃ q : Nat, (q : Int) = (d : Int) - f.leastPlace := ⟨((d : Int) - f.leastPlace).toNat, by omega⟩
  have hr : nrung f neg mag = min (q * f.binade + evn mag d) f.infRung := by
    unfold nrung
    simp only [hlast]
    rw [show ((d : Int) - f.leastPlace).toNat = q from by omega, show ((0 : Int) - (d : Int)).toNat = 0 from by omega,
      show ((d : Int) - 0).toNat = d from by omega, Nat.shiftLeft_zero, cut_even neg mag d (by omega)]
  have hlt : q * f.binade + evn mag d < f.infRung := by
    unfold Format.infRung
    have h3 : q + 3 ≤ 2 ^ f.exponentBits - 1 := by omega
    have hB := binade_pos f
    have h4 : (q + 3) * f.binade ≤ (2 ^ f.exponentBits - 1) * f.binade := Nat.mul_le_mul_right _ h3
    rw [Nat.add_mul] at h4
    omega
  refine ⟨d, hd, by omega, k1, k2, ?_, ?_⟩
  · rw [hr, Nat.min_eq_left (by omega)]; exact hlt
  · rw [hr, Nat.min_eq_left (by omega), vV_upto f q _ k3.1 k3.2, show q = d + (-f.leastPlace).toNat from by omega]


/-- the first loop of Join -/
def H1D (r : Nat) (s e i : Int) : Prop := 0 < s ∧ s ≤ 9007199254740992 ∧ (s < 9007199254740992 ∨ i = 0) ∧ 0 ≤ i ∧ i ≤ 64 ∧ -1074 ≤ e ∧ e ≤ 64 + i ∧ s.toNat * 2 ^ (e + 1074).toNat = vlD r
/-- the second -/
def H2D (r : Nat) (s e : Int) : Prop := 0 < s ∧ s < 9007199254740992 ∧ -1074 ≤ e ∧ e ≤ 128 ∧ s.toNat * 2 ^ (e + 1074).toNat = vlD r
theorem H1D_step (r : Nat) (s e i : Int) (h : H1D r s e i) (hi : i < 64) (h2 : s % 2 = 0) : H1D r (s / 2) (e + 1) (i + 1) := by
  obtain ⟨a1, a2, a3, a4, a5, a6, a7, a8⟩ := h
  refine ⟨by omega, by omega, by omega, by omega, by omega, by omega, by omega, ?_⟩
  rw [← a8, show (e + 1 + 1074).toNat = (e + 1074).toNat + 1 from by omega, Nat.pow_succ, Nat.mul_comm (2 ^ _) 2, ← Nat.mul_assoc]
  congr 1; omega
theorem H1D_end (r : Nat) (s e i : Int) (h : H1D r s e i) (hc : ¬ i < 64 ∨ ¬ s % 2 = 0) : H2D r s e := by
  obtain ⟨a1, a2, a3, a4, a5, a6, a7, a8⟩ := h
  exact ⟨a1, by omega, a6, by omega, a8⟩
theorem H2D_step (r : Nat) (s e : Int) (h : H2D r s e) (h1 : s < 4503599627370496) (h2 : -1074 < e) : H2D r (s * 2) (e - 1) := by
  obtain ⟨a1, a2, a3, a4, a5⟩ := h
  refine ⟨by omega, by omega, by omega, by omega, ?_⟩
  rw [← a5, show (e + 1074).toNat = (e - 1 + 1074).toNat + 1 from by omega, Nat.pow_succ, Nat.mul_comm (2 ^ _) 2, ← Nat.mul_assoc]
  congr 1; omega
theorem H2D_end (r : Nat) (hr : r < 9218868437227405312) (s e : Int) (h : H2D r s e) (hc : ¬ s < 4503599627370496 ∨ ¬ -1074 < e) : s = ((sgD r : Nat) : Int) ∧ e = epD r ∧ kdD r = 0 ∧ e ≤ 971 := by
  obtain ⟨a1, a2, a3, a4, a5⟩ := h
  have hkd : kdD r = 0 := by unfold kdD kdG; rw [if_pos hr]
  by_cases c : s < 4503599627370496
  · have he : e = -1074 := by omega
    have e1 : vlD s.toNat = s.toNat * 2 ^ (e + 1074).toNat := by
      rw [he, show (-1074 + 1074 : Int).toNat = 0 from rfl, Nat.pow_zero, Nat.mul_one]
      show vV double s.toNat = s.toNat
      unfold vV mM eE
      rw [binD, if_pos (by omega), if_pos (by omega), Nat.pow_zero, Nat.mul_one]
    have e2 : s.toNat = r := (vV_inj double _ _).1 (e1.trans a5)
    refine ⟨?_, ?_, hkd, by omega⟩
    · rw [← e2]; unfold sgD sgG; rw [if_pos (by omega)]; omega
    · rw [← e2]; unfold epD epG; rw [if_pos (by omega)]; exact he
  · have e1 := vV_of double (e + 1074).toNat s.toNat (by rw [binD]; omega) (by rw [binD]; omega)
    have e2 : (e + 1074).toNat * double.binade + s.toNat = r := (vV_inj double _ _).1 (e1.trans a5)
    rw [binD] at e2
    refine ⟨?_, ?_, hkd, by omega⟩
    · rw [← e2]; unfold sgD sgG; (repeat' split) <;> omega
    · rw [← e2]; unfold epD epG; (repeat' split) <;> omega

/-- the first loop of Join -/
def H1S (r : Nat) (s e i : Int) : Prop := 0 < s ∧ s ≤ 16777216 ∧ (s < 16777216 ∨ i = 0) ∧ 0 ≤ i ∧ i ≤ 64 ∧ -149 ≤ e ∧ e ≤ 64 + i ∧ s.toNat * 2 ^ (e + 149).toNat = vlS r
/-- the second -/
def H2S (r : Nat) (s e : Int) : Prop := 0 < s ∧ s < 16777216 ∧ -149 ≤ e ∧ e ≤ 128 ∧ s.toNat * 2 ^ (e + 149).toNat = vlS r
theorem H1S_step (r : Nat) (s e i : Int) (h : H1S r s e i) (hi : i < 64) (h2 : s % 2 = 0) : H1S r (s / 2) (e + 1) (i + 1) := by
  obtain ⟨a1, a2, a3, a4, a5, a6, a7, a8⟩ := h
  refine ⟨by omega, by omega, by omega, by omega, by omega, by omega, by omega, ?_⟩
  rw [← a8, show (e + 1 + 149).toNat = (e + 149).toNat + 1 from by omega, Nat.pow_succ, Nat.mul_comm (2 ^ _) 2, ← Nat.mul_assoc]
  congr 1; omega
theorem H1S_end (r : Nat) (s e i : Int) (h : H1S r s e i) (hc : ¬ i < 64 ∨ ¬ s % 2 = 0) : H2S r s e := by
  obtain ⟨a1, a2, a3, a4, a5, a6, a7, a8⟩ := h
  exact ⟨a1, by omega, a6, by omega, a8⟩
theorem H2S_step (r : Nat) (s e : Int) (h : H2S r s e) (h1 : s < 8388608) (h2 : -149 < e) : H2S r (s * 2) (e - 1) := by
  obtain ⟨a1, a2, a3, a4, a5⟩ := h
  refine ⟨by omega, by omega, by omega, by omega, ?_⟩
  rw [← a5, show (e + 149).toNat = (e - 1 + 149).toNat + 1 from by omega, Nat.pow_succ, Nat.mul_comm (2 ^ _) 2, ← Nat.mul_assoc]
  congr 1; omega
theorem H2S_end (r : Nat) (hr : r < 2139095040) (s e : Int) (h : H2S r s e) (hc : ¬ s < 8388608 ∨ ¬ -149 < e) : s = ((sgS r : Nat) : Int) ∧ e = epS r ∧ kdS r = 0 ∧ e ≤ 104 := by
  obtain ⟨a1, a2, a3, a4, a5⟩ := h
  have hkd : kdS r = 0 := by unfold kdS kdG; rw [if_pos hr]
  by_cases c : s < 8388608
  · have he : e = -149 := by omega
    have e1 : vlS s.toNat = s.toNat * 2 ^ (e + 149).toNat := by
      rw [he, show (-149 + 149 : Int).toNat = 0 from rfl, Nat.pow_zero, Nat.mul_one]
      show vV single s.toNat = s.toNat
      unfold vV mM eE
      rw [binS, if_pos (by omega), if_pos (by omega), Nat.pow_zero, Nat.mul_one]
    have e2 : s.toNat = r := (vV_inj single _ _).1 (e1.trans a5)
    refine ⟨?_, ?_, hkd, by omega⟩
    · rw [← e2]; unfold sgS sgG; rw [if_pos (by omega)]; omega
    · rw [← e2]; unfold epS epG; rw [if_pos (by omega)]; exact he
  · have e1 := vV_of single (e + 149).toNat s.toNat (by rw [binS]; omega) (by rw [binS]; omega)
    have e2 : (e + 149).toNat * single.binade + s.toNat = r := (vV_inj single _ _).1 (e1.trans a5)
    rw [binS] at e2
    refine ⟨?_, ?_, hkd, by omega⟩
    · rw [← e2]; unfold sgS sgG; (repeat' split) <;> omega
    · rw [← e2]; unfold epS epG; (repeat' split) <;> omega
end Go.Proofs.YtbdeppdjelcioaaDoor
