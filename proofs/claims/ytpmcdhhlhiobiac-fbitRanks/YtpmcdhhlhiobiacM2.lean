import Derived.Test.YtpmcdhhlhiobiacM
import Derived.Laws.FloatArith
import Derived.RowKit
namespace Go.Proofs.Ytpmcdhhlhiobiac
open Go.RowKit

theorem fD_plz (n : Bool) (m : Nat) : fD (plz n m) = wD (n && !(m == 0)) m := by
  unfold fD plz
  cases n
  · simp only [Bool.false_eq_true, if_false, Bool.false_and]
    rw [decide_eq_false (by omega), Int.natAbs_natCast]
  · simp only [if_true, Bool.true_and]
    by_cases c : m = 0
    · subst c; rfl
    · have e : (m == 0) = false := by simp [c]
      rw [decide_eq_true (by omega), Int.natAbs_neg, Int.natAbs_natCast, e]; rfl
theorem fD_back (p : Int) : plz (decide (p < 0)) p.natAbs = p := by
  unfold plz; by_cases c : p < 0
  · simp [c]; omega
  · simp [c]; omega
theorem ordffD (p q : Int) (h1 : -9218868437227405312 ≤ p) (h2 : p ≤ 9218868437227405312) (h3 : -9218868437227405312 ≤ q) (h4 : q ≤ 9218868437227405312) : FloatKind.f64.format.order (fD p) (fD q) = some (compare p q) := by
  have e := ordD (decide (p < 0)) (decide (q < 0)) p.natAbs q.natAbs (by omega) (by omega)
  rw [fD_back, fD_back] at e; exact e
theorem ordwfD (n : Bool) (m : Nat) (q : Int) (h1 : m ≤ 9218868437227405312) (h3 : -9218868437227405312 ≤ q) (h4 : q ≤ 9218868437227405312) : FloatKind.f64.format.order (wD n m) (fD q) = some (compare (plz n m) q) := by
  have e := ordD n (decide (q < 0)) m q.natAbs (by omega) (by omega)
  rw [fD_back] at e; exact e
theorem ordfwD (p : Int) (n : Bool) (m : Nat) (h1 : -9218868437227405312 ≤ p) (h2 : p ≤ 9218868437227405312) (h3 : m ≤ 9218868437227405312) : FloatKind.f64.format.order (fD p) (wD n m) = some (compare p (plz n m)) := by
  have e := ordD (decide (p < 0)) n p.natAbs m (by omega) (by omega)
  rw [fD_back] at e; exact e
theorem exfD (n : Bool) (m : Nat) (h : m ≤ 9218868437227405312) : -9218868437227405312 ≤ plz n m ∧ plz n m ≤ 9218868437227405312 := by
  have := plz_bd n m; omega

theorem fS_plz (n : Bool) (m : Nat) : fS (plz n m) = wS (n && !(m == 0)) m := by
  unfold fS plz
  cases n
  · simp only [Bool.false_eq_true, if_false, Bool.false_and]
    rw [decide_eq_false (by omega), Int.natAbs_natCast]
  · simp only [if_true, Bool.true_and]
    by_cases c : m = 0
    · subst c; rfl
    · have e : (m == 0) = false := by simp [c]
      rw [decide_eq_true (by omega), Int.natAbs_neg, Int.natAbs_natCast, e]; rfl
theorem fS_back (p : Int) : plz (decide (p < 0)) p.natAbs = p := by
  unfold plz; by_cases c : p < 0
  · simp [c]; omega
  · simp [c]; omega
theorem ordffS (p q : Int) (h1 : -2139095040 ≤ p) (h2 : p ≤ 2139095040) (h3 : -2139095040 ≤ q) (h4 : q ≤ 2139095040) : FloatKind.f32.format.order (fS p) (fS q) = some (compare p q) := by
  have e := ordS (decide (p < 0)) (decide (q < 0)) p.natAbs q.natAbs (by omega) (by omega)
  rw [fS_back, fS_back] at e; exact e
theorem ordwfS (n : Bool) (m : Nat) (q : Int) (h1 : m ≤ 2139095040) (h3 : -2139095040 ≤ q) (h4 : q ≤ 2139095040) : FloatKind.f32.format.order (wS n m) (fS q) = some (compare (plz n m) q) := by
  have e := ordS n (decide (q < 0)) m q.natAbs (by omega) (by omega)
  rw [fS_back] at e; exact e
theorem ordfwS (p : Int) (n : Bool) (m : Nat) (h1 : -2139095040 ≤ p) (h2 : p ≤ 2139095040) (h3 : m ≤ 2139095040) : FloatKind.f32.format.order (fS p) (wS n m) = some (compare p (plz n m)) := by
  have e := ordS (decide (p < 0)) n p.natAbs m (by omega) (by omega)
  rw [fS_back] at e; exact e
theorem exfS (n : Bool) (m : Nat) (h : m ≤ 2139095040) : -2139095040 ≤ plz n m ∧ plz n m ≤ 2139095040 := by
  have := plz_bd n m; omega
end Go.Proofs.Ytpmcdhhlhiobiac
