import Derived.Test.YtolghomhigemgaaProg
import Derived.Test.YtolghomhigemgaaKXA0
import Derived.Test.YtolghomhigemgaaKXM
import Derived.Test.YtolghomhigemgaaKXT
import Derived.Test.YtolghomhigemgaaKXLB
import Derived.Test.YtolghomhigemgaaKXY
import Derived.Test.YtolghomhigemgaaKRX
import Derived.Test.YtolghomhigemgaaKXRL
import Derived.Test.YtolghomhigemgaaKXCO
import Derived.Test.YtolghomhigemgaaKLN
import Derived.Test.YtolghomhigemgaaKXRN
import Derived.Test.YtolghomhigemgaaKW4
import Derived.Test.YtolghomhigemgaaKBY
import Derived.Test.YtolghomhigemgaaKBW
import Derived.Test.YtolghomhigemgaaKXTZ
import Derived.Test.YtolghomhigemgaaKXG1
import Derived.Test.YtolghomhigemgaaKNSm
import Derived.Test.YtolghomhigemgaaKXG4
import Derived.WalkKit
import Derived.ProofKit
import Derived.RowKit3
import Derived.WalkSpells
import Derived.StillTactics
import Derived.Deep.QuietTactic
import Derived.BigQuiet
import Derived.Below
import Derived.Deep.OwnRows
import Derived.OwnWalk
import Derived.Laws.BitsAllLaws
import Derived.Laws.Slices
import Derived.Laws.Bits64b
namespace Go.Proofs.Ytolghomhigemgaa
open Go.RowKit
/-- what the document tells of a ratio -/
def ratW (d : Int) (neg : Bool) (a b : Nat) (exp : Int) : Nat := if 16384 < len32 a ∨ 16384 < len32 b then 9221120237041090561 else if b = 0 then (if a = 0 then 9221120237041090561 else mdW neg 9218868437227405312) else if a = 0 then 0 else mdW neg (finU 53 2098 9218868437227405311 9218868437227405312 (dirN neg d) (rV (dirN neg d) 53 a b (exp + 1074)))
theorem refW_fin (d : Int) (g neg : Bool) (a b a2 b2 : Nat) (e : Int) (hF : FracOf a b e a2 b2) (hg : a ≠ 0 → g = neg) (K : Nat) (hK : K = 1074) : refW 53 K 2098 9218868437227405311 0 d g a2 b2 = if a = 0 then 0 else mdW neg (finU 53 2098 9218868437227405311 9218868437227405312 (dirN neg d) (rV (dirN neg d) 53 a b (e + 1074))) := by
  unfold refW
  by_cases c : a = 0
  · rw [if_pos c, if_pos (hF.2.1.2 c)]
  · rw [if_neg c, if_neg (fun h => c (hF.2.1.1 h)), hg c, hF.2.2.1 _ _ _ c, Nat.pow_zero, Nat.mul_one, show ((K : Nat) : Int) + e = e + 1074 from by omega]
    rfl
end Go.Proofs.Ytolghomhigemgaa
