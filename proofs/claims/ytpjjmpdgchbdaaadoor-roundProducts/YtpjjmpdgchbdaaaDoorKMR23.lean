import Derived.Test.YtpjjmpdgchbdaaaDoorKXM
import Derived.Test.YtpjjmpdgchbdaaaDoorKXY
import Derived.Test.YtpjjmpdgchbdaaaDoorKXMR
import Derived.Test.YtpjjmpdgchbdaaaDoorKMR17
import Derived.Test.YtpjjmpdgchbdaaaDoorKMR7Q
import Derived.Test.YtpjjmpdgchbdaaaDoorKXO
import Derived.Test.YtpjjmpdgchbdaaaDoorKXO3
import Derived.Test.YtpjjmpdgchbdaaaDoorKO6
import Derived.Test.YtpjjmpdgchbdaaaDoorKXQF
import Derived.RowKit
import Derived.Laws.FloatArith
namespace Go.Proofs.YtpjjmpdgchbdaaaDoor
open Go.RowKit
/-- the pattern that answers a product, P of 2^-2148, in the direction d -/
def mulW (d : Int) (ng : Bool) (P : Nat) : Nat := if P = 0 then 0 else mdW ng (finU 53 2098 9218868437227405311 9218868437227405312 (dirN ng d) (rV (dirN ng d) 53 P 1 (-1074)))
theorem of_mul (d : Int) (ng : Bool) (c : Nat) (low : Int) (P : Nat) (h1 : -2148 ≤ low) (h2 : low ≤ 8192) (hb : blen c ≤ 524288) (hP : P = c * 2 ^ (low + 2148).toNat) : ofW d ng c low = mulW d ng P := by
  have hl : ¬ 16384 < len32 c := mt (long_iff c).2 (by omega)
  rw [of_rat]
  unfold ratW mulW
  rw [if_neg (by rw [len32_one]; omega), if_neg (by decide)]
  obtain ⟨k, hk⟩ : ∃ k, k = (low + 2148).toNat := ⟨_, rfl⟩
  rw [← hk] at hP
  by_cases c0 : c = 0
  · rw [if_pos c0, if_pos (by rw [hP, c0, Nat.zero_mul])]
  · have hp : P ≠ 0 := by rw [hP]; exact Nat.mul_ne_zero c0 (Nat.ne_of_gt (Nat.two_pow_pos k))
    rw [if_neg c0, if_neg hp, hP, rV_up _ _ _ _ _ _ (by decide), show (-1074 : Int) + (k : Int) = low + 1074 from by omega]
theorem sum_mul (d V : Int) (ng : Bool) (P K : Nat) (hK : K = 1074) (hP : V.natAbs * 2 ^ K = P) (hng : V ≠ 0 → ng = decide (V < 0)) : sumW d V = mulW d ng P := by
  unfold sumW mulW
  by_cases c : V = 0
  · rw [if_pos c, if_pos (by rw [← hP, c]; simp)]
  · have hp : P ≠ 0 := by rw [← hP]; exact Nat.mul_ne_zero (by omega) (Nat.ne_of_gt (Nat.two_pow_pos K))
    rw [if_neg c, if_neg hp, ← hng c, ← hP, rV_up _ _ _ _ _ _ (by decide), show (-1074 : Int) + (K : Int) = 0 from by omega]
    unfold rV
    rw [show ((0 : Int)).toNat = 0 from rfl, show (-(0 : Int)).toNat = 0 from rfl, Nat.pow_zero, Nat.mul_one, Nat.mul_one]
theorem ref_mul (d : Int) (ng neg : Bool) (x D a b P K : Nat) (hK : K = 1074) (hD : D ≠ 0) (hF : FracOf x D 0 a b) (hg : x ≠ 0 → ng = neg) (hx : x * 2 ^ (K + K) = P * D) : refW 53 1074 2098 9218868437227405311 0 d ng a b = mulW d neg P := by
  have h := refW_fin d ng neg x D a b 0 hF hg K hK
  rw [← hK, h]
  unfold mulW
  have hp := Nat.two_pow_pos (K + K)
  by_cases c : x = 0
  · have h0 : P = 0 := by
      rw [c, Nat.zero_mul] at hx
      rcases Nat.mul_eq_zero.1 hx.symm with h1 | h1
      · exact h1
      · exact absurd h1 hD
    rw [if_pos c, if_pos h0]
  · have h0 : P ≠ 0 := fun h1 => by
      rw [h1, Nat.zero_mul] at hx
      rcases Nat.mul_eq_zero.1 hx with h2 | h2 <;> omega
    rw [if_neg c, if_neg h0]
    have e : rV (dirN neg d) 53 x D (0 + 1074) = rV (dirN neg d) 53 P 1 (-1074) := by
      rw [← rV_ratio _ _ (x * 2 ^ (K + K)) D P 1 _ (by omega) (by decide) (by rw [Nat.mul_one]; exact hx), rV_up _ _ _ _ _ _ (by omega)]
      congr 1
      omega
    rw [e]
/-- a product's sign is that of its whole number of least places -/
theorem sgn_v (n n' : Bool) (m m' K : Nat) (V : Int) (hV : V * ((2 ^ K : Nat) : Int) = Iv n m * Iv n' m') (hv : V ≠ 0) : (n ^^ n') = decide (V < 0) := by
  have hp : (0 : Int) < ((2 ^ K : Nat) : Int) := by have := Nat.two_pow_pos K; omega
  obtain ⟨q, hq⟩ : ∃ q : Int, q = ((2 ^ K : Nat) : Int) := ⟨_, rfl⟩
  rw [← hq] at hV hp
  have hz : V * q ≠ 0 := fun h => by rcases Int.mul_eq_zero.1 h with h | h <;> omega
  have hs : V < 0 ↔ V * q < 0 := by
    constructor
    · intro h; exact Int.mul_neg_of_neg_of_pos h hp
    · intro h
      rcases Int.lt_or_le V 0 with c | c
      · exact c
      · have := Int.mul_nonneg c (Int.le_of_lt hp); omega
  obtain ⟨x, hx⟩ : ∃ x : Int, x = ((Fq.vV Ieee.double m : Nat) : Int) := ⟨_, rfl⟩
  obtain ⟨y, hy⟩ : ∃ y : Int, y = ((Fq.vV Ieee.double m' : Nat) : Int) := ⟨_, rfl⟩
  have hxy : 0 ≤ x * y := Int.mul_nonneg (by omega) (by omega)
  unfold Iv at hV
  rw [← hx, ← hy] at hV
  cases n <;> cases n' <;> simp only [if_true, if_false, Bool.false_eq_true, Int.neg_mul, Int.mul_neg, Int.neg_neg] at hV <;> by_cases c : V < 0 <;> simp [c] <;> omega
theorem abs_v (n n' : Bool) (m m' K : Nat) (V : Int) (hV : V * ((2 ^ K : Nat) : Int) = Iv n m * Iv n' m') : V.natAbs * 2 ^ K = Fq.vV Ieee.double m * Fq.vV Ieee.double m' := by
  have h1 := congrArg Int.natAbs hV
  rw [Int.natAbs_mul, Int.natAbs_mul, Int.natAbs_natCast, iv_abs, iv_abs] at h1
  exact h1
theorem vV_zero (m : Nat) : Fq.vV Ieee.double m = 0 ↔ m = 0 := by
  unfold Fq.vV Fq.mM Fq.eE
  rw [Fq.binD]
  have := Nat.two_pow_pos (if m < 4503599627370496 then 0 else m / 4503599627370496 - 1)
  constructor
  · intro h
    rcases Nat.mul_eq_zero.1 h with h | h
    · split at h <;> omega
    · omega
  · intro h; subst h; simp
end Go.Proofs.YtpjjmpdgchbdaaaDoor
