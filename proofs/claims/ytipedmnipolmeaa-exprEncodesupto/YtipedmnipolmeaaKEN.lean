import Derived.Test.YtipedmnipolmeaaKEM
namespace Go.Proofs.Ytipedmnipolmeaa
open Go.RowKit
namespace Fq

def kyN (x : Nat) : Nat := if 9223372036854775808 ≤ pla x then 18446744073709551615 - pla x else pla x + 9223372036854775808
theorem kyN_w (n : Bool) (m : Nat) (h : m ≤ 9218868437227405312) : (kyN (wD n m) : Int) = if plz n m < 0 then 9223372036854775807 + plz n m else 9223372036854775808 + plz n m := by
  unfold kyN pla wD plz
  cases n <;> simp <;> repeat' split
  all_goals omega
theorem kyN_lt (n n' : Bool) (m m' : Nat) (h : m ≤ 9218868437227405312) (h' : m' ≤ 9218868437227405312) : kyN (wD n m) < kyN (wD n' m') ↔ plz n m < plz n' m' := by
  have e1 := kyN_w n m h
  have e2 := kyN_w n' m' h'
  have : (kyN (wD n m) < kyN (wD n' m')) ↔ ((kyN (wD n m) : Int) < kyN (wD n' m')) := by omega
  rw [this, e1, e2]
  repeat' split
  all_goals omega
end Fq
end Go.Proofs.Ytipedmnipolmeaa
