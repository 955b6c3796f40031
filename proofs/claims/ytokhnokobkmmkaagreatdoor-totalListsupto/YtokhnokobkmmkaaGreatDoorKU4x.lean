import Derived.Test.YtokhnokobkmmkaaGreatDoorKMR23
import Derived.Test.YtokhnokobkmmkaaGreatDoorKTOa
import Derived.Test.YtokhnokobkmmkaaGreatDoorKXP
namespace Go.Proofs.YtokhnokobkmmkaaGreatDoor
open Go.RowKit
theorem nanD9 (n : Bool) (m : Nat) (h1 : 9218868437227405312 < m) (h2 : m < 9223372036854775808) : Ieee.double.read (Fq.wD n m) = .nan n (m - 9218868437227405312) := by
  rw [Fq.read_nan Ieee.double _ Fq.binfD (by rw [Fq.rgD n m h2, Fq.infD]; exact h1), Fq.rgD n m h2, Fq.ngD n m h2, Fq.infD]
theorem infD9 (n : Bool) : Ieee.double.read (Fq.wD n 9218868437227405312) = .infinity n := by
  rw [Fq.read_inf Ieee.double _ Fq.binfD (by rw [Fq.rgD n 9218868437227405312 (by decide), Fq.infD]), Fq.ngD n 9218868437227405312 (by decide)]
theorem finD9 (n : Bool) (m : Nat) (h : m < 9218868437227405312) : ∃ a e, Ieee.double.read (Fq.wD n m) = .number n a e ∧ (a = 0 ↔ m = 0) := by
  rw [Fq.read_fin _ _ (by rw [Fq.rgD n m (by omega), Fq.infD]; exact h), Fq.ngD n m (by omega), Fq.rgD n m (by omega)]
  refine ⟨_, _, rfl, ?_⟩
  unfold Fq.mM
  rw [Fq.binD]
  split <;> omega
theorem wrI9 (s : Bool) : Ieee.double.write (.infinity s) = Fq.wD s 9218868437227405312 := by unfold Ieee.Format.write Ieee.Format.word Fq.wD; rw [Fq.signD, Fq.infD]
def badP (m m' : Nat) : Prop := 9218868437227405312 < m ∨ 9218868437227405312 < m' ∨ (m = 9218868437227405312 ∧ m' = 0) ∨ (m = 0 ∧ m' = 9218868437227405312)
theorem mul_bad (n n' : Bool) (m m' : Nat) (hm : m < 9223372036854775808) (hm' : m' < 9223372036854775808) (h : badP m m') : FloatKind.f64.format.mul (Fq.wD n m) (Fq.wD n' m') = none := by
  show Ieee.double.mul _ _ = none
  unfold Ieee.Format.mul
  by_cases c1 : 9218868437227405312 < m
  · rw [nanD9 n m c1 hm]; rfl
  · by_cases c2 : 9218868437227405312 < m'
    · rw [nanD9 n' m' c2 hm']
      by_cases c3 : m = 9218868437227405312
      · rw [c3, infD9]; rfl
      · obtain ⟨a, e, he, _⟩ := finD9 n m (by omega)
        rw [he]; rfl
    · rcases (h.resolve_left c1).resolve_left c2 with ⟨e1, e2⟩ | ⟨e1, e2⟩
      · obtain ⟨a, e, he, hz⟩ := finD9 n' m' (by omega)
        rw [e1, infD9, he]
        unfold Ieee.Datum.product
        simp only
        rw [if_pos (hz.2 e2)]; rfl
      · obtain ⟨a, e, he, hz⟩ := finD9 n m (by omega)
        rw [e2, infD9, he]
        unfold Ieee.Datum.product
        simp only
        rw [if_pos (hz.2 e1)]; rfl
theorem mul_inf (n n' : Bool) (m m' : Nat) (h : ¬ badP m m') (hi : ¬ (m < 9218868437227405312 ∧ m' < 9218868437227405312)) : FloatKind.f64.format.mul (Fq.wD n m) (Fq.wD n' m') = some (Fq.wD (n ^^ n') 9218868437227405312) := by
  unfold badP at h
  show Ieee.double.mul _ _ = _
  unfold Ieee.Format.mul
  by_cases c1 : m = 9218868437227405312
  · rw [c1, infD9]
    by_cases c2 : m' = 9218868437227405312
    · rw [c2, infD9]
      exact congrArg some (wrI9 _)
    · obtain ⟨a, e, he, hz⟩ := finD9 n' m' (by omega)
      rw [he]
      unfold Ieee.Datum.product
      simp only
      rw [if_neg (fun h0 => h (Or.inr (Or.inr (Or.inl ⟨c1, hz.1 h0⟩))))]
      exact congrArg some (wrI9 _)
  · have c2 : m' = 9218868437227405312 := by omega
    obtain ⟨a, e, he, hz⟩ := finD9 n m (by omega)
    rw [c2, infD9, he]
    unfold Ieee.Datum.product
    simp only
    rw [if_neg (fun h0 => h (Or.inr (Or.inr (Or.inr ⟨hz.1 h0, c2⟩)))), show (n ^^ n') = (n' ^^ n) from by cases n <;> cases n' <;> rfl]
    exact congrArg some (wrI9 _)
theorem rU_zero9 : rU 0 53 0 1 = 0 := by
  have h := rV_zero9 0 0
  unfold rV at h
  simpa using h
theorem mul_zero (n n' : Bool) (m m' : Nat) (hm : m < 9218868437227405312) (hm' : m' < 9218868437227405312) (h : m = 0 ∨ m' = 0) : FloatKind.f64.format.mul (Fq.wD n m) (Fq.wD n' m') = some (Fq.wD (n ^^ n') 0) := by
  obtain ⟨K, hK⟩ : ∃ K : Nat, K = 1074 := ⟨_, rfl⟩
  have hz : Iv n m * Iv n' m' = 0 := by
    have e : ∀ b : Bool, Iv b 0 = 0 := fun b => by
      have := iv_abs b 0
      rw [(vV_zero 0).2 rfl] at this
      omega
    rcases h with h | h
    · rw [h, e, Int.zero_mul]
    · rw [h, e, Int.mul_zero]
  rw [mul_v n n' m m' hm hm' K 0 hK (by rw [hz, Int.zero_mul]), if_pos rfl, show (0 : Int).natAbs = 0 from rfl, rU_zero9]
  unfold finU
  rw [blen_zero, if_pos (by decide), rgU_zero]
theorem nan_cut9 (t : Nat) : 9218868437227405312 < (t % 2 * 2 ^ 63 + 0x7ff0000000000000 + 1 + t / 2 % (2 ^ 52 - 1)) % 9223372036854775808 ∧ t % 2 * 2 ^ 63 + 0x7ff0000000000000 + 1 + t / 2 % (2 ^ 52 - 1) < 18446744073709551616 := by
  rw [show (2 : Nat) ^ 63 = 9223372036854775808 from by decide, show (2 : Nat) ^ 52 - 1 = 4503599627370495 from by decide]
  have h1 : t % 2 = 0 ∨ t % 2 = 1 := by omega
  have h2 : t / 2 % 4503599627370495 < 4503599627370495 := Nat.mod_lt _ (by decide)
  generalize t / 2 % 4503599627370495 = b at *
  rcases h1 with h | h <;> rw [h] <;> omega
theorem run_nan_mul (X Y : Nat) (h : FloatKind.f64.format.mul X Y = none) (w : World) : ∃ r, 9218868437227405312 < r % 9223372036854775808 ∧ r < 18446744073709551616 ∧ (binOp .mul 48 (.float .f64 X) (.float .f64 Y)).run Tryz.prog w = .ok (.float .f64 r) w.drew := by
  refine ⟨Question.cut (.nanBits .f64 X Y) _, ?_, ?_, by simp [binOp, Op.floatArith, h]; rfl⟩
  · simp only [Question.cut]; exact (nan_cut9 _).1
  · simp only [Question.cut]; exact (nan_cut9 _).2
end Go.Proofs.YtokhnokobkmmkaaGreatDoor
