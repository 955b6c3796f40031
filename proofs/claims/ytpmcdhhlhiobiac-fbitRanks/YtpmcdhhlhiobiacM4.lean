import Derived.Test.YtpmcdhhlhiobiacM
import Derived.Test.YtpmcdhhlhiobiacM2
import Derived.Laws.FloatArith
import Derived.RowKit
import Derived.Laws.NewFold
namespace Go.Proofs.Ytpmcdhhlhiobiac
open Go.RowKit

theorem cmpz_lt {a b : Int} (h : a < b) : cmpz a b = -1 := by unfold cmpz; rw [if_pos h]
theorem cmpz_gt {a b : Int} (h : b < a) : cmpz a b = 1 := by unfold cmpz; rw [if_neg (by omega), if_pos h]
theorem cmpz_self (a : Int) : cmpz a a = 0 := by unfold cmpz; rw [if_neg (by omega), if_neg (by omega)]
theorem nanCut (t : Nat) : ∃ (n : Bool) (m : Nat), 9218868437227405312 < m ∧ m < 9223372036854775808 ∧ (Question.nanBits .f64 0 0).cut t = wD n m := by
  show ∃ (n : Bool) (m : Nat), 9218868437227405312 < m ∧ m < 9223372036854775808 ∧ (t % 2) * 2 ^ 63 + 0x7ff0000000000000 + 1 + (t / 2) % (2 ^ 52 - 1) = wD n m
  have h : (t / 2) % (2 ^ 52 - 1) < 2 ^ 52 - 1 := Nat.mod_lt _ (by decide)
  by_cases c : t % 2 = 0
  · refine ⟨false, 0x7ff0000000000000 + 1 + (t / 2) % (2 ^ 52 - 1), by omega, by omega, ?_⟩
    unfold wD; rw [c]; simp
  · have c1 : t % 2 = 1 := by omega
    refine ⟨true, 0x7ff0000000000000 + 1 + (t / 2) % (2 ^ 52 - 1), by omega, by omega, ?_⟩
    unfold wD; rw [c1]; simp; omega
theorem rkfD (n n' : Bool) (m m' : Nat) (h1 : m < 9223372036854775808) (h2 : m' < 9223372036854775808) :
    (rkD n m < rkD n' m' → m ≤ 9218868437227405312 ∧ (9218868437227405312 < m' ∨ (m' ≤ 9218868437227405312 ∧ plz n m < plz n' m') ∨ (m' ≤ 9218868437227405312 ∧ plz n m = plz n' m' ∧ m = 0))) ∧
    (rkD n m = rkD n' m' → (9218868437227405312 < m ∧ 9218868437227405312 < m') ∨ (m ≤ 9218868437227405312 ∧ m' ≤ 9218868437227405312 ∧ plz n m = plz n' m')) := by
  have e1 : plz n m = if n then -(m : Int) else m := rfl
  have e2 : plz n' m' = if n' then -(m' : Int) else m' := rfl
  unfold rkD rkG
  cases n <;> cases n' <;> simp only [if_true, Bool.false_eq_true, if_false] at e1 e2 ⊢ <;> (constructor <;> ((repeat' split) <;> omega))
theorem rkfS (n n' : Bool) (m m' : Nat) (h1 : m < 2147483648) (h2 : m' < 2147483648) :
    (rkS n m < rkS n' m' → m ≤ 2139095040 ∧ (2139095040 < m' ∨ (m' ≤ 2139095040 ∧ plz n m < plz n' m') ∨ (m' ≤ 2139095040 ∧ plz n m = plz n' m' ∧ m = 0))) ∧
    (rkS n m = rkS n' m' → (2139095040 < m ∧ 2139095040 < m') ∨ (m ≤ 2139095040 ∧ m' ≤ 2139095040 ∧ plz n m = plz n' m')) := by
  have e1 : plz n m = if n then -(m : Int) else m := rfl
  have e2 : plz n' m' = if n' then -(m' : Int) else m' := rfl
  unfold rkS rkG
  cases n <;> cases n' <;> simp only [if_true, Bool.false_eq_true, if_false] at e1 e2 ⊢ <;> (constructor <;> ((repeat' split) <;> omega))
end Go.Proofs.Ytpmcdhhlhiobiac
