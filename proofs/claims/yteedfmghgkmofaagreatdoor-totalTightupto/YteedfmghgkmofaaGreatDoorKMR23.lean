import Derived.Test.YteedfmghgkmofaaGreatDoorKBW
import Derived.Test.YteedfmghgkmofaaGreatDoorKMR17
namespace Go.Proofs.YteedfmghgkmofaaGreatDoor
open Go.RowKit
def mulW (d : Int) (ng : Bool) (P : Nat) : Nat := if P = 0 then 0 else mdW ng (finU 53 2098 9218868437227405311 9218868437227405312 (dirN ng d) (rV (dirN ng d) 53 P 1 (-1074)))
theorem of_mul (d : Int) (ng : Bool) (c : Nat) (low : Int) (P : Nat) (h1 : -2148 ≤ low) (h2 : low ≤ 8192) (hb : blen c ≤ 524288) (hP : P = c * 2 ^ (low + 2148).toNat) : ofW d ng c low = mulW d ng P := by
  have hl : ¬ 16384 < len32 c := mt (long_iff c).2 (by omega)
  rw [of_rat]
  unfold ratW mulW
  rw [if_neg (by rw [len32_one]; omega), if_neg (by decide)]
  obtain ⟨k, hk⟩ : ∃ k, k = (low + 2148).toNat := ⟨_, rfl⟩
  rw [← hk] at hP
  by_cases c0 : c = 0
  · rw [if_pos c0, if_pos (by rw [hP, c0, Nat.zero_mul])]
  · have hp : P ≠ 0 := by rw [hP]; exact Nat.mul_ne_zero c0 (Nat.ne_of_gt (Nat.two_pow_pos k))
    rw [if_neg c0, if_neg hp, hP, rV_up _ _ _ _ _ _ (by decide), show (-1074 : Int) + (k : Int) = low + 1074 from by omega]
theorem vV_zero (m : Nat) : Fq.vV Ieee.double m = 0 ↔ m = 0 := by
  unfold Fq.vV Fq.mM Fq.eE
  rw [Fq.binD]
  have := Nat.two_pow_pos (if m < 4503599627370496 then 0 else m / 4503599627370496 - 1)
  constructor
  · intro h
    rcases Nat.mul_eq_zero.1 h with h | h
    · split at h <;> omega
    · omega
  · intro h; subst h; simp
theorem sgn_mul (u p : Int) (hp : 0 < p) : (u < 0 ↔ u * p < 0) ∧ (0 < u ↔ 0 < u * p) := by
  rcases Int.lt_trichotomy u 0 with c | c | c
  · have := Int.mul_neg_of_neg_of_pos c hp
    omega
  · rw [c, Int.zero_mul]; omega
  · have := Int.mul_pos c hp
    omega
theorem Nr.mag {v s : Int} {T : Nat} (h : Nr v s T) (h1 : T ≠ 1) : 4503599627370496 * T ≤ s.natAbs := by
  have hl := h.low.resolve_left h1
  have hn := h.near
  have hp := h.pos
  obtain ⟨k, hk⟩ := h.dvd
  have e : s.natAbs = T * k.natAbs := by rw [hk, Int.natAbs_mul, Int.natAbs_natCast]
  rw [e]
  rcases Nat.lt_or_ge k.natAbs 4503599627370496 with c | c
  · exfalso
    have h5 : T * k.natAbs ≤ T * 4503599627370495 := Nat.mul_le_mul_left T (by omega)
    omega
  · have h5 := Nat.mul_le_mul_left T c
    omega
end Go.Proofs.YteedfmghgkmofaaGreatDoor
