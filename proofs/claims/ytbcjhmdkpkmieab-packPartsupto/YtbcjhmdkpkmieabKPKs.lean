import Derived.Test.YtbcjhmdkpkmieabKPKm
namespace Go.Proofs.Ytbcjhmdkpkmieab
open Go.RowKit
open Go
namespace B8
theorem pla_lt (a : Nat) (ha : a < 18446744073709551616) : Fq.pla a < 18446744073709551616 := by unfold Fq.pla; split <;> omega
theorem beqN (a k : Nat) : ((a : Int) == (k : Int)) = decide (a = k) := by
  by_cases c : a = k
  · subst c; simp
  · rw [decide_eq_false c]; simp; omega
end B8
end Go.Proofs.Ytbcjhmdkpkmieab
