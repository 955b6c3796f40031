import Derived.Test.YtakcpoapokacgabDoorMN
import Derived.Test.YtakcpoapokacgabDoorMV
import Derived.Test.YtakcpoapokacgabDoorMD
import Derived.Test.YtakcpoapokacgabDoorMC
import Derived.Test.YtakcpoapokacgabDoorMM
import Derived.RowKit
namespace Go.Proofs.YtakcpoapokacgabDoor
open Go.RowKit

/-- Pow's answer, of numbers -/
def powN (a : Nat) (n : Int) : List Int × Int := if n < 0 then ([], 1) else if 16384 < len32 a then ([], 2) else if 16384 < len32 (a ^ n.toNat) then ([], 2) else (dig (a ^ n.toNat), 0)
theorem dig_one : dig 1 = [1] := by rw [dig_pos 1 (by decide)]; simp [dig_zero]
theorem len32_one : len32 1 = 1 := by unfold len32; rw [dig_one]; rfl
theorem len32_small (a : Nat) (h : a < 4294967296) : len32 a ≤ 1 := by
  by_cases c : len32 a ≤ 1
  · exact c
  · have := len32_lt a 1 (by omega); omega
theorem pow_small (a m : Nat) (h : blen a ≤ 1) (hm : 0 < m) : a ^ m = a := by
  have ha : a = 0 ∨ a = 1 := by
    by_cases c : a = 0
    · exact Or.inl c
    · right
      obtain ⟨h1, h2, h3⟩ := blen_spec a c
      have : blen a = 1 := by omega
      rw [this] at h2
      omega
  rcases ha with rfl | rfl
  · exact Nat.zero_pow hm
  · exact Nat.one_pow m
theorem pow_long (a m K : Nat) (hl : 1 ≤ blen a) (h : 32 * K ≤ (blen a - 1) * m) : K < len32 (a ^ m) := by
  have na : a ≠ 0 := fun e => by subst e; rw [blen_zero] at hl; omega
  have h1 := (blen_spec a na).1
  have h2 := Nat.pow_le_pow_left h1 m
  rw [← Nat.pow_mul] at h2
  apply len32_gt
  rw [pow32]
  exact Nat.le_trans (Nat.pow_le_pow_right (by omega) h) h2
theorem pow_bound (a m K : Nat) (h : blen a * m ≤ 32 * K) : len32 (a ^ m) ≤ K + 1 := by
  by_cases c : len32 (a ^ m) ≤ K + 1
  · exact c
  · exfalso
    have g1 := len32_lt (a ^ m) (K + 1) (by omega)
    have g2 : a ≤ 2 ^ blen a := by
      by_cases e : a = 0
      · subst e; exact Nat.zero_le _
      · exact Nat.le_of_lt (blen_spec a e).2.1
    have g3 := Nat.pow_le_pow_left g2 m
    rw [← Nat.pow_mul] at g3
    have g4 : 2 ^ (blen a * m) ≤ 2 ^ (32 * K) := Nat.pow_le_pow_right (by omega) h
    rw [← pow32] at g4
    have g5 : 4294967296 ^ K < 4294967296 ^ (K + 1) := by rw [Nat.pow_succ]; have := Nat.pow_pos (n := K) (show 0 < 4294967296 by decide); omega
    omega
theorem two_le (a : Nat) (h : ¬ blen a ≤ 1) : 2 ≤ a := by
  by_cases c : 2 ≤ a
  · exact c
  · exfalso
    have := blen_lt a 1 (by omega)
    omega
theorem div_long (L n q : Nat) (hq : q = 524287 / (L - 1)) (hL : 2 ≤ L) (h : q < n) : 32 * 16384 ≤ (L - 1) * n := by
  have h1 : 524287 < (L - 1) * (q + 1) := by
    rw [hq]; exact Nat.lt_mul_div_succ 524287 (by omega)
  have h2 : (L - 1) * (q + 1) ≤ (L - 1) * n := Nat.mul_le_mul_left _ (by omega)
  omega
theorem div_long8 (L n q : Nat) (hq : q = 524288 / (L - 1)) (hL : 2 ≤ L) (h : q < n) : 32 * 16384 ≤ (L - 1) * n := by
  have h1 : 524288 < (L - 1) * (q + 1) := by
    rw [hq]; exact Nat.lt_mul_div_succ 524288 (by omega)
  have h2 : (L - 1) * (q + 1) ≤ (L - 1) * n := Nat.mul_le_mul_left _ (by omega)
  omega
theorem div_short (L n q : Nat) (hq : q = 524288 / (L - 1)) (hL : 2 ≤ L) (h : n ≤ q) : L * n ≤ 32 * 32768 := by
  have h1 : (L - 1) * n ≤ 524288 := by
    have : (L - 1) * q ≤ 524288 := by rw [hq]; exact Nat.mul_div_le _ _
    exact Nat.le_trans (Nat.mul_le_mul_left _ h) this
  have h2 : L * n ≤ (2 * (L - 1)) * n := Nat.mul_le_mul_right _ (by omega)
  rw [Nat.mul_assoc] at h2
  omega
theorem pow_step (a n b : Nat) : (a ^ (n / 2 ^ (b + 1)) * a ^ (n / 2 ^ (b + 1))) * a ^ (n / 2 ^ b % 2) = a ^ (n / 2 ^ b) := by
  rw [← Nat.pow_add, ← Nat.pow_add]
  congr 1
  rw [Nat.pow_succ, ← Nat.div_div_eq_div_mul]
  omega
theorem pow_mono_len (a m n : Nat) (ha : 2 ≤ a) (h : m ≤ n) : len32 (a ^ m) ≤ len32 (a ^ n) := len32_mono (Nat.pow_le_pow_right (by omega) h)
theorem div_le_self' (n b : Nat) : n / 2 ^ b ≤ n := Nat.div_le_self _ _
theorem top_one (n : Nat) (h : n ≠ 0) : n / 2 ^ (blen n - 1) = 1 := by
  obtain ⟨h1, h2, h3⟩ := blen_spec n h
  obtain ⟨k, hk⟩ : ∃ k, blen n = k + 1 := ⟨blen n - 1, by omega⟩
  rw [hk] at h1 h2 ⊢
  simp only [Nat.add_sub_cancel] at h1 ⊢
  rw [Nat.pow_succ] at h2
  apply Nat.le_antisymm
  · have : n / 2 ^ k < 2 := by rw [Nat.div_lt_iff_lt_mul (Nat.two_pow_pos k)]; omega
    omega
  · exact (Nat.le_div_iff_mul_le (Nat.two_pow_pos k)).2 (by omega)
theorem and1_i64 (q : Nat) (h : q < 9223372036854775808) : bits BinOp.and IntKind.i64 (q : Int) 1 = ((q % 2 : Nat) : Int) := by
  have e : (BitVec.ofInt 64 (q : Int) &&& BitVec.ofInt 64 (1 : Int)).toNat = q % 2 := by
    rw [BitVec.toNat_and, show BitVec.ofInt 64 (1 : Int) = BitVec.ofNat 64 1 from rfl, BitVec.ofInt_natCast, BitVec.toNat_ofNat, BitVec.toNat_ofNat, Nat.mod_eq_of_lt (Nat.lt_trans h (by decide)), show 1 % 2 ^ 64 = 1 from by decide]
    exact Nat.and_one_is_mod q
  show IntKind.i64.wrap ((BitVec.ofInt 64 (q : Int) &&& BitVec.ofInt 64 (1 : Int)).toNat : Int) = _
  rw [e]
  simp [IntKind.wrap, IntKind.bits, IntKind.signed]; omega
theorem tdiv_nat (a b : Nat) : Int.tdiv (a : Int) (b : Int) = ((a / b : Nat) : Int) := rfl
theorem mulN_short (x y : Nat) (hx : len32 x ≤ 16384) (hy : len32 y ≤ 16384) : mulN x y = if 16384 < len32 (x * y) then ([], 2) else (dig (x * y), 0) := by unfold mulN; rw [if_neg (by omega)]
end Go.Proofs.YtakcpoapokacgabDoor
