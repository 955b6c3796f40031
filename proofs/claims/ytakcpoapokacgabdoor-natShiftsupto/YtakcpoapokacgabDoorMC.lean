import Derived.Test.YtakcpoapokacgabDoorMN
import Derived.Test.YtakcpoapokacgabDoorMV
import Derived.Test.YtakcpoapokacgabDoorMD
import Derived.RowKit
namespace Go.Proofs.YtakcpoapokacgabDoor
open Go.RowKit

def cmpN (a b : Nat) : Int := if a < b then -1 else if b < a then 1 else 0
def cmpz (x y : Int) : Int := if x < y then -1 else if y < x then 1 else 0
theorem cmpN_lt {a b : Nat} (h : a < b) : cmpN a b = -1 := by unfold cmpN; rw [if_pos h]
theorem cmpN_gt {a b : Nat} (h : b < a) : cmpN a b = 1 := by unfold cmpN; rw [if_neg (by omega), if_pos h]
theorem cmpN_eq {a b : Nat} (h : a = b) : cmpN a b = 0 := by unfold cmpN; rw [if_neg (by omega), if_neg (by omega)]
theorem val_take_lt (xs : List Int) (h : Wd xs) (k : Nat) : val (xs.take k) < 4294967296 ^ k := by
  have h1 := val_lt (xs.take k) (h.take k)
  have h2 : (xs.take k).length ≤ k := by rw [List.length_take]; omega
  exact Nat.lt_of_lt_of_le h1 (Nat.pow_le_pow_right (by decide) h2)
/-- the highest word that parts them decides -/
theorem cmp_top (xs ys : List Int) (hx : Wd xs) (k : Nat) (h0 : 0 ≤ xs.getD k 0) (h : xs.getD k 0 < ys.getD k 0) : ∀ n, k < n → (∀ j, k < j → j < n → xs.getD j 0 = ys.getD j 0) → val (xs.take n) < val (ys.take n) := by
  intro n
  induction n with
  | zero => intro h1; omega
  | succ n ih =>
    intro h1 he
    rw [val_take_succ, val_take_succ]
    by_cases c : k = n
    · subst c
      have h2 := val_take_lt xs hx k
      obtain ⟨P, hP⟩ : ∃ P, P = 4294967296 ^ k := ⟨_, rfl⟩
      rw [← hP] at h2 ⊢
      have h3 : ((xs.getD k 0).toNat + 1) * P ≤ (ys.getD k 0).toNat * P := Nat.mul_le_mul_right P (by omega)
      rw [Nat.add_mul, Nat.one_mul] at h3
      omega
    · have := ih (by omega) (fun j a b => he j a (by omega))
      rw [he n (by omega) (by omega)]
      omega
theorem cmp_all (xs ys : List Int) : ∀ n, (∀ j, j < n → xs.getD j 0 = ys.getD j 0) → val (xs.take n) = val (ys.take n) := by
  intro n
  induction n with
  | zero => intro _; simp
  | succ n ih =>
    intro he
    rw [val_take_succ, val_take_succ, ih (fun j h => he j (by omega)), he n (by omega)]
theorem val_tl (xs : List Int) : val (xs.take (tl xs)) = val xs := val_nz xs
theorem val_ge_tl (xs : List Int) (h : Wd xs) (k : Nat) (hk : k < tl xs) : 4294967296 ^ k ≤ val xs := by
  have h1 := (tl_spec xs xs.length).2
  have h2 : xs.getD (tl xs - 1) 0 ≠ 0 := by
    rcases h1 with h1 | h1
    · exfalso; have : tl xs = 0 := h1; omega
    · exact h1
  have h3 := h (tl xs - 1)
  rw [← val_tl xs]
  obtain ⟨t, ht⟩ : ∃ t, tl xs = t + 1 := ⟨tl xs - 1, by omega⟩
  rw [ht] at h2 h3 ⊢
  rw [val_take_succ]
  simp only [Nat.add_sub_cancel] at h2 h3
  have h4 : 4294967296 ^ k ≤ 4294967296 ^ t := Nat.pow_le_pow_right (by decide) (by omega)
  have h5 : 1 * 4294967296 ^ t ≤ (xs.getD t 0).toNat * 4294967296 ^ t := Nat.mul_le_mul_right _ (by omega)
  omega
theorem tl_lt_val (xs ys : List Int) (hx : Wd xs) (hy : Wd ys) (h : tl xs < tl ys) : val xs < val ys := by
  have h1 := val_take_lt xs hx (tl xs)
  rw [val_tl] at h1
  exact Nat.lt_of_lt_of_le h1 (val_ge_tl ys hy (tl xs) h)
theorem tl_mono (xs ys : List Int) (hx : Wd xs) (hy : Wd ys) (h : val xs ≤ val ys) : tl xs ≤ tl ys := by
  by_cases c : tl ys < tl xs
  · have := tl_lt_val ys xs hy hx c; omega
  · omega
theorem len32_mono {a b : Nat} (h : a ≤ b) : len32 a ≤ len32 b := by
  rw [← tl_dig a, ← tl_dig b]
  exact tl_mono _ _ (Wd_dig a) (Wd_dig b) (by rw [val_dig, val_dig]; exact h)
theorem getD_tl (xs : List Int) (j : Nat) (h : tl xs ≤ j) : xs.getD j 0 = 0 := by
  by_cases c : j < xs.length
  · exact (tl_spec xs xs.length).1 j h c
  · simp [List.getD, List.getElem?_eq_none (by omega : xs.length ≤ j)]
/-- Sub's answer, of numbers -/
def subN (a b : Nat) : List Int × Int := if a < b then ([], 1) else if 16384 < len32 a then ([], 2) else (dig (a - b), 0)
theorem sub_borrow (x y b d : Nat) (hx : x < 4294967296) (hy : y < 4294967296) (hb : b ≤ 1) (hd : d = (x + 8589934592 - y - b) % 4294967296) :
    ((4294967295 - x) &&& y ||| (4294967295 - (x ^^^ y)) &&& d) / 2147483648 = if x < y + b then 1 else 0 := by
  have e : ∀ n : Nat, n / 2147483648 = n >>> 31 := fun n => by rw [Nat.shiftRight_eq_div_pow]
  have hz : x ^^^ y < 4294967296 := Nat.xor_lt_two_pow (n := 32) hx hy
  have ez : (x ^^^ y) / 2147483648 = (x / 2147483648) ^^^ (y / 2147483648) := by rw [e, e, e, Nat.shiftRight_xor_distrib]
  have e1 : (4294967295 - x) / 2147483648 = 1 - x / 2147483648 := by omega
  have e2 : (4294967295 - (x ^^^ y)) / 2147483648 = 1 - (x ^^^ y) / 2147483648 := by omega
  rw [e, Nat.shiftRight_or_distrib, Nat.shiftRight_and_distrib, Nat.shiftRight_and_distrib, ← e, ← e, ← e, ← e, e1, e2, ez]
  have hd2 : d < 4294967296 := by omega
  obtain ⟨X, hX⟩ : ∃ X, X = x / 2147483648 := ⟨_, rfl⟩
  obtain ⟨Y, hY⟩ : ∃ Y, Y = y / 2147483648 := ⟨_, rfl⟩
  obtain ⟨D, hD⟩ : ∃ D, D = d / 2147483648 := ⟨_, rfl⟩
  rw [← hX, ← hY, ← hD]
  clear e1 e2 ez hz e
  rcases (by omega : X = 0 ∨ X = 1) with hX0 | hX0 <;> rcases (by omega : Y = 0 ∨ Y = 1) with hY0 | hY0 <;> rcases (by omega : D = 0 ∨ D = 1) with hD0 | hD0 <;> rw [hX0, hY0, hD0] <;> simp <;> omega
theorem not32 (x : Nat) (h : x < 4294967296) : 4294967295 ^^^ x = 4294967295 - x := by
  apply Nat.eq_of_testBit_eq
  intro i
  have e1 : (4294967295 : Nat).testBit i = decide (i < 32) := Nat.testBit_two_pow_sub_one 32 i
  have e2 : (4294967295 - x).testBit i = (decide (i < 32) && !x.testBit i) := by
    rw [← Nat.testBit_two_pow_sub_succ (show x < 2 ^ 32 from h) i]
    congr 1
    omega
  rw [Nat.testBit_xor, e1, e2]
  by_cases c : i < 32
  · simp [c]
  · have : x.testBit i = false := Nat.testBit_lt_two_pow (Nat.lt_of_lt_of_le h (Nat.pow_le_pow_right (n := 2) (by omega) (by omega : 32 ≤ i)))
    simp [c, this]
/-- one word of a difference -/
theorem minus_step (L xs ys : List Int) (k C C' Z : Nat) (hl : L.length = k) (hZ : Z + ((ys.getD k 0).toNat + C) = (xs.getD k 0).toNat + C' * 4294967296) (h : val L + val (ys.take k) = val (xs.take k) + C * 4294967296 ^ k) :
    val (L ++ [(Z : Int)]) + val (ys.take (k + 1)) = val (xs.take (k + 1)) + C' * 4294967296 ^ (k + 1) := by
  rw [val_append, val_take_succ, val_take_succ, hl]
  simp only [val, Int.toNat_natCast, Nat.mul_zero, Nat.add_zero]
  obtain ⟨P, hP⟩ : ∃ P, P = 4294967296 ^ k := ⟨_, rfl⟩
  rw [Nat.pow_succ, ← hP]
  rw [← hP] at h
  have e := congrArg (· * P) hZ
  simp only [Nat.add_mul] at e
  have e3 : C' * 4294967296 * P = C' * (P * 4294967296) := by rw [Nat.mul_comm P, Nat.mul_assoc]
  rw [Nat.mul_comm P Z]
  omega
theorem minus_end (zs xs ys : List Int) (C n : Nat) (hl : zs.length = n) (hz : Wd zs) (hle : val ys ≤ val xs) (h : val zs + val ys = val xs + C * 4294967296 ^ n) (hC : C ≤ 1) : C = 0 := by
  have h1 := val_lt zs hz
  rw [hl] at h1
  rcases (by omega : C = 0 ∨ C = 1) with c | c
  · exact c
  · subst c; omega
/-- one word of a difference, where it stands -/
theorem diff_step (zs : List Int) (k C C' Z V T : Nat) (X Y : Int) (hk : k < zs.length) (hX : zs.getD k 0 = X) (hZ : Z + (Y.toNat + C) = X.toNat + C' * 4294967296) (h : val zs + T = V + C * 4294967296 ^ k) :
    val (zs.set k (Z : Int)) + (T + Y.toNat * 4294967296 ^ k) = V + C' * 4294967296 ^ (k + 1) := by
  have h1 := val_set zs k (Z : Int) hk
  rw [hX, Int.toNat_natCast] at h1
  obtain ⟨P, hP⟩ : ∃ P, P = 4294967296 ^ k := ⟨_, rfl⟩
  rw [Nat.pow_succ, ← hP]
  rw [← hP] at h h1
  have e := congrArg (· * P) hZ
  simp only [Nat.add_mul] at e
  have e3 : C' * 4294967296 * P = C' * (P * 4294967296) := by rw [Nat.mul_comm P, Nat.mul_assoc]
  omega
theorem diff_room (zs xs ys : List Int) (j n : Nat) (hl : zs.length = n) (hz : Wd zs) (hle : val ys ≤ val xs) (h : val zs + val ys = val xs + 1 * 4294967296 ^ j) : j < n := by
  by_cases c : j < n
  · exact c
  · exfalso
    have h1 := val_lt zs hz
    rw [hl] at h1
    have h2 : 4294967296 ^ n ≤ 4294967296 ^ j := Nat.pow_le_pow_right (by decide) (by omega)
    omega
end Go.Proofs.YtakcpoapokacgabDoor
