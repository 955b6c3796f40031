import Derived.Test.YtbdeppdjelcioaaDoorM
import Derived.Test.YtbdeppdjelcioaaDoorM5
import Derived.Laws.FloatArith
namespace Go.Proofs.YtbdeppdjelcioaaDoor
open Go.RowKit
open Ieee

/-- the first loop: significand and exponent still say the number -/
def J1D (m : Nat) (s e : Int) : Prop := 0 < s ∧ s < 9007199254740992 ∧ -1074 ≤ e ∧ e ≤ 971 ∧ s.toNat * 2 ^ (e + 1074).toNat = vlD m
/-- the second loop: they say a whole number -/
def J2D (m : Nat) (s e : Int) : Prop := 0 < s ∧ s < 18446744073709551616 ∧ 0 ≤ e ∧ e ≤ 971 ∧ s.toNat * 2 ^ e.toNat = tqD m ∧ vlD m % unD = 0
theorem J1D_start (m : Nat) (h0 : m ≠ 0) (h : m < 9218868437227405312) : J1D m ((sgD m : Nat) : Int) (epD m) := by
  have hv : vlD m = mM double m * 2 ^ eE double m := rfl
  have e1 : mM double m = sgD m := by unfold mM sgD sgG; rw [binD]; (repeat' split) <;> omega
  have e2 : epD m = -1074 + (eE double m : Nat) := by unfold epD epG eE; rw [binD]; (repeat' split) <;> omega
  have e3 : eE double m ≤ 2045 := by unfold eE; rw [binD]; (repeat' split) <;> omega
  have e4 : 0 < sgD m ∧ sgD m < 9007199254740992 := by unfold sgD sgG; (repeat' split) <;> omega
  refine ⟨by omega, by omega, by omega, by omega, ?_⟩
  rw [Int.toNat_natCast, e2, show (-1074 + ((eE double m : Nat) : Int) + 1074).toNat = eE double m from by omega, hv, e1]
theorem J1D_step (m : Nat) (s e : Int) (h : J1D m s e) (he : e < 0) (h2 : s % 2 = 0) : J1D m (s / 2) (e + 1) := by
  obtain ⟨a1, a2, a3, a4, a5⟩ := h
  refine ⟨by omega, by omega, by omega, by omega, ?_⟩
  rw [← a5, show (e + 1 + 1074).toNat = (e + 1074).toNat + 1 from by omega, Nat.pow_succ, Nat.mul_comm (2 ^ _) 2, ← Nat.mul_assoc]
  congr 1; omega
theorem J1D_odd (m : Nat) (s e : Int) (h : J1D m s e) (he : e < 0) (h2 : ¬ s % 2 = 0) : ¬ vlD m % unD = 0 := by
  obtain ⟨a1, a2, a3, a4, a5⟩ := h
  intro hd
  rw [← a5, unD_two] at hd
  have hdvd : 2 ^ 1074 ∣ s.toNat * 2 ^ (e + 1074).toNat := Nat.dvd_of_mod_eq_zero hd
  have e1 : (1074 : Nat) = ((-e).toNat - 1) + 1 + (e + 1074).toNat := by omega
  rw [e1, Nat.pow_add, Nat.pow_succ] at hdvd
  have h3 : 2 ^ ((-e).toNat - 1) * 2 ∣ s.toNat := Nat.dvd_of_mul_dvd_mul_right (Nat.two_pow_pos _) hdvd
  have h4 : 2 ∣ s.toNat := Nat.dvd_trans ⟨2 ^ ((-e).toNat - 1), Nat.mul_comm _ _⟩ h3
  omega
theorem J1D_whole (m : Nat) (s e : Int) (h : J1D m s e) (he : 0 ≤ e) : J2D m s e := by
  obtain ⟨a1, a2, a3, a4, a5⟩ := h
  have hp := unD_pos
  have e1 : vlD m = s.toNat * 2 ^ e.toNat * unD := by
    rw [← a5, unD_two, show (e + 1074).toNat = e.toNat + 1074 from by omega, Nat.pow_add, Nat.mul_assoc]
  refine ⟨a1, by omega, he, a4, ?_, ?_⟩
  · unfold tqD; rw [e1, Nat.mul_div_cancel _ hp]
  · rw [e1, Nat.mul_mod_left]
theorem J2D_step (m : Nat) (s e : Int) (h : J2D m s e) (he : 0 < e) (h2 : s < 9223372036854775808) : J2D m (s * 2) (e - 1) := by
  obtain ⟨a1, a2, a3, a4, a5, a6⟩ := h
  refine ⟨by omega, by omega, by omega, by omega, ?_, a6⟩
  rw [← a5, show e.toNat = (e - 1).toNat + 1 from by omega, Nat.pow_succ, Nat.mul_comm (2 ^ _) 2, ← Nat.mul_assoc]
  congr 1; omega
theorem J2D_far (n : Bool) (m : Nat) (s e : Int) (h : J2D m s e) (he : 0 < e) (h2 : ¬ s < 9223372036854775808) : wokD n m = false := by
  obtain ⟨a1, a2, a3, a4, a5, a6⟩ := h
  have hn : inrD n m = false := by
    by_cases c : inrD n m = true
    · obtain ⟨b1, b2, b3⟩ := inrD_lt n m c
      exfalso
      have : 2 ≤ 2 ^ e.toNat := by
        rw [show e.toNat = (e.toNat - 1) + 1 from by omega, Nat.pow_succ]; have := Nat.two_pow_pos (e.toNat - 1); omega
      have h5 : s.toNat * 2 ≤ s.toNat * 2 ^ e.toNat := Nat.mul_le_mul_left _ this
      omega
    · simpa using c
  unfold wokD; rw [hn]; rfl
theorem J2D_end (n : Bool) (m : Nat) (s : Int) (h : J2D m s 0) : (tqD m : Int) = s ∧ ((s < 9223372036854775808 ∨ (n = true ∧ s = 9223372036854775808)) → wokD n m = true) ∧ ((¬ s < 9223372036854775808 ∧ ¬ (n = true ∧ s = 9223372036854775808)) → wokD n m = false) := by
  obtain ⟨a1, a2, a3, a4, a5, a6⟩ := h
  have ht : tqD m = s.toNat := by rw [← a5]; simp
  have hp := unD_pos
  have htop := vlD_top
  have hdm : vlD m = s.toNat * unD := by
    have := Nat.div_add_mod (vlD m) unD
    rw [a6, Nat.add_zero, Nat.mul_comm] at this
    have h' : vlD m / unD = s.toNat := ht
    rw [h'] at this; exact this.symm
  refine ⟨by rw [ht]; omega, fun hc => ?_, fun hc => ?_⟩
  · have hi : inrD n m = true := by
      unfold inrD
      rcases hc with hc | ⟨rfl, hc⟩
      · have : vlD m < vlD 4890909195324358656 := by
          rw [hdm, htop]; exact Nat.mul_lt_mul_of_pos_right (by omega) hp
        have := (vV_lt_iff double m 4890909195324358656).1 this
        simp [this]
      · have : vlD m = vlD 4890909195324358656 := by rw [hdm, htop, show s.toNat = 9223372036854775808 from by omega]
        have := (vV_inj double m 4890909195324358656).1 this
        simp [this]
    unfold wokD; rw [hi, a6]; rfl
  · have hn : inrD n m = false := by
      by_cases c : inrD n m = true
      · obtain ⟨b1, b2, b3⟩ := inrD_lt n m c
        exfalso
        cases n
        · have := b3 rfl; omega
        · simp at hc; omega
      · simpa using c
    unfold wokD; rw [hn]; rfl
theorem wokD_zero (n : Bool) : wokD n 0 = true ∧ wvD n 0 = 0 := by
  have hv : vlD 0 = 0 := vV_zero double
  have ht : tqD 0 = 0 := by unfold tqD; rw [hv, Nat.zero_div]
  constructor
  · unfold wokD inrD; rw [hv, Nat.zero_mod]; rfl
  · unfold wvD; rw [ht]; cases n <;> rfl
theorem wokD_inf (n : Bool) (m : Nat) (h : 9218868437227405312 ≤ m) : wokD n m = false := by
  have hn : inrD n m = false := by
    by_cases c : inrD n m = true
    · have := (inrD_lt n m c).1; omega
    · simpa using c
  unfold wokD; rw [hn]; rfl

/-- the first loop: significand and exponent still say the number -/
def J1S (m : Nat) (s e : Int) : Prop := 0 < s ∧ s < 16777216 ∧ -149 ≤ e ∧ e ≤ 104 ∧ s.toNat * 2 ^ (e + 149).toNat = vlS m
/-- the second loop: they say a whole number -/
def J2S (m : Nat) (s e : Int) : Prop := 0 < s ∧ s < 18446744073709551616 ∧ 0 ≤ e ∧ e ≤ 104 ∧ s.toNat * 2 ^ e.toNat = tqS m ∧ vlS m % unS = 0
theorem J1S_start (m : Nat) (h0 : m ≠ 0) (h : m < 2139095040) : J1S m ((sgS m : Nat) : Int) (epS m) := by
  have hv : vlS m = mM single m * 2 ^ eE single m := rfl
  have e1 : mM single m = sgS m := by unfold mM sgS sgG; rw [binS]; (repeat' split) <;> omega
  have e2 : epS m = -149 + (eE single m : Nat) := by unfold epS epG eE; rw [binS]; (repeat' split) <;> omega
  have e3 : eE single m ≤ 253 := by unfold eE; rw [binS]; (repeat' split) <;> omega
  have e4 : 0 < sgS m ∧ sgS m < 16777216 := by unfold sgS sgG; (repeat' split) <;> omega
  refine ⟨by omega, by omega, by omega, by omega, ?_⟩
  rw [Int.toNat_natCast, e2, show (-149 + ((eE single m : Nat) : Int) + 149).toNat = eE single m from by omega, hv, e1]
theorem J1S_step (m : Nat) (s e : Int) (h : J1S m s e) (he : e < 0) (h2 : s % 2 = 0) : J1S m (s / 2) (e + 1) := by
  obtain ⟨a1, a2, a3, a4, a5⟩ := h
  refine ⟨by omega, by omega, by omega, by omega, ?_⟩
  rw [← a5, show (e + 1 + 149).toNat = (e + 149).toNat + 1 from by omega, Nat.pow_succ, Nat.mul_comm (2 ^ _) 2, ← Nat.mul_assoc]
  congr 1; omega
theorem J1S_odd (m : Nat) (s e : Int) (h : J1S m s e) (he : e < 0) (h2 : ¬ s % 2 = 0) : ¬ vlS m % unS = 0 := by
  obtain ⟨a1, a2, a3, a4, a5⟩ := h
  intro hd
  rw [← a5, unS_two] at hd
  have hdvd : 2 ^ 149 ∣ s.toNat * 2 ^ (e + 149).toNat := Nat.dvd_of_mod_eq_zero hd
  have e1 : (149 : Nat) = ((-e).toNat - 1) + 1 + (e + 149).toNat := by omega
  rw [e1, Nat.pow_add, Nat.pow_succ] at hdvd
  have h3 : 2 ^ ((-e).toNat - 1) * 2 ∣ s.toNat := Nat.dvd_of_mul_dvd_mul_right (Nat.two_pow_pos _) hdvd
  have h4 : 2 ∣ s.toNat := Nat.dvd_trans ⟨2 ^ ((-e).toNat - 1), Nat.mul_comm _ _⟩ h3
  omega
theorem J1S_whole (m : Nat) (s e : Int) (h : J1S m s e) (he : 0 ≤ e) : J2S m s e := by
  obtain ⟨a1, a2, a3, a4, a5⟩ := h
  have hp := unS_pos
  have e1 : vlS m = s.toNat * 2 ^ e.toNat * unS := by
    rw [← a5, unS_two, show (e + 149).toNat = e.toNat + 149 from by omega, Nat.pow_add, Nat.mul_assoc]
  refine ⟨a1, by omega, he, a4, ?_, ?_⟩
  · unfold tqS; rw [e1, Nat.mul_div_cancel _ hp]
  · rw [e1, Nat.mul_mod_left]
theorem J2S_step (m : Nat) (s e : Int) (h : J2S m s e) (he : 0 < e) (h2 : s < 9223372036854775808) : J2S m (s * 2) (e - 1) := by
  obtain ⟨a1, a2, a3, a4, a5, a6⟩ := h
  refine ⟨by omega, by omega, by omega, by omega, ?_, a6⟩
  rw [← a5, show e.toNat = (e - 1).toNat + 1 from by omega, Nat.pow_succ, Nat.mul_comm (2 ^ _) 2, ← Nat.mul_assoc]
  congr 1; omega
theorem J2S_far (n : Bool) (m : Nat) (s e : Int) (h : J2S m s e) (he : 0 < e) (h2 : ¬ s < 9223372036854775808) : wokS n m = false := by
  obtain ⟨a1, a2, a3, a4, a5, a6⟩ := h
  have hn : inrS n m = false := by
    by_cases c : inrS n m = true
    · obtain ⟨b1, b2, b3⟩ := inrS_lt n m c
      exfalso
      have : 2 ≤ 2 ^ e.toNat := by
        rw [show e.toNat = (e.toNat - 1) + 1 from by omega, Nat.pow_succ]; have := Nat.two_pow_pos (e.toNat - 1); omega
      have h5 : s.toNat * 2 ≤ s.toNat * 2 ^ e.toNat := Nat.mul_le_mul_left _ this
      omega
    · simpa using c
  unfold wokS; rw [hn]; rfl
theorem J2S_end (n : Bool) (m : Nat) (s : Int) (h : J2S m s 0) : (tqS m : Int) = s ∧ ((s < 9223372036854775808 ∨ (n = true ∧ s = 9223372036854775808)) → wokS n m = true) ∧ ((¬ s < 9223372036854775808 ∧ ¬ (n = true ∧ s = 9223372036854775808)) → wokS n m = false) := by
  obtain ⟨a1, a2, a3, a4, a5, a6⟩ := h
  have ht : tqS m = s.toNat := by rw [← a5]; simp
  have hp := unS_pos
  have htop := vlS_top
  have hdm : vlS m = s.toNat * unS := by
    have := Nat.div_add_mod (vlS m) unS
    rw [a6, Nat.add_zero, Nat.mul_comm] at this
    have h' : vlS m / unS = s.toNat := ht
    rw [h'] at this; exact this.symm
  refine ⟨by rw [ht]; omega, fun hc => ?_, fun hc => ?_⟩
  · have hi : inrS n m = true := by
      unfold inrS
      rcases hc with hc | ⟨rfl, hc⟩
      · have : vlS m < vlS 1593835520 := by
          rw [hdm, htop]; exact Nat.mul_lt_mul_of_pos_right (by omega) hp
        have := (vV_lt_iff single m 1593835520).1 this
        simp [this]
      · have : vlS m = vlS 1593835520 := by rw [hdm, htop, show s.toNat = 9223372036854775808 from by omega]
        have := (vV_inj single m 1593835520).1 this
        simp [this]
    unfold wokS; rw [hi, a6]; rfl
  · have hn : inrS n m = false := by
      by_cases c : inrS n m = true
      · obtain ⟨b1, b2, b3⟩ := inrS_lt n m c
        exfalso
        cases n
        · have := b3 rfl; omega
        · simp at hc; omega
      · simpa using c
    unfold wokS; rw [hn]; rfl
theorem wokS_zero (n : Bool) : wokS n 0 = true ∧ wvS n 0 = 0 := by
  have hv : vlS 0 = 0 := vV_zero single
  have ht : tqS 0 = 0 := by unfold tqS; rw [hv, Nat.zero_div]
  constructor
  · unfold wokS inrS; rw [hv, Nat.zero_mod]; rfl
  · unfold wvS; rw [ht]; cases n <;> rfl
theorem wokS_inf (n : Bool) (m : Nat) (h : 2139095040 ≤ m) : wokS n m = false := by
  have hn : inrS n m = false := by
    by_cases c : inrS n m = true
    · have := (inrS_lt n m c).1; omega
    · simpa using c
  unfold wokS; rw [hn]; rfl
end Go.Proofs.YtbdeppdjelcioaaDoor
