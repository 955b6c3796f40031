import Derived.Test.YtgiffpohngaonaaGreatDoorProg
import Derived.Test.YtgiffpohngaonaaGreatDoorKXA0
import Derived.Test.YtgiffpohngaonaaGreatDoorKXM
import Derived.Test.YtgiffpohngaonaaGreatDoorKXT
import Derived.Test.YtgiffpohngaonaaGreatDoorKXLB
import Derived.Test.YtgiffpohngaonaaGreatDoorKXY
import Derived.Test.YtgiffpohngaonaaGreatDoorKLN
import Derived.Test.YtgiffpohngaonaaGreatDoorKW4
import Derived.Test.YtgiffpohngaonaaGreatDoorKBY
import Derived.Test.YtgiffpohngaonaaGreatDoorKXBW
import Derived.Test.YtgiffpohngaonaaGreatDoorKXTZ
import Derived.Test.YtgiffpohngaonaaGreatDoorKXG1
import Derived.Test.YtgiffpohngaonaaGreatDoorKXNM
import Derived.Test.YtgiffpohngaonaaGreatDoorKXQF
import Derived.Test.YtgiffpohngaonaaGreatDoorKQA
import Derived.Test.YtgiffpohngaonaaGreatDoorKQP
import Derived.Test.YtgiffpohngaonaaGreatDoorKXQU
import Derived.Test.YtgiffpohngaonaaGreatDoorKQB
import Derived.Test.YtgiffpohngaonaaGreatDoorKQBT
import Derived.Test.YtgiffpohngaonaaGreatDoorKXQJ
import Derived.Test.YtgiffpohngaonaaGreatDoorKXSL
import Derived.Test.YtgiffpohngaonaaGreatDoorKXN
import Derived.Test.YtgiffpohngaonaaGreatDoorKXH2Q
import Derived.Test.YtgiffpohngaonaaGreatDoorKXMR
import Derived.Test.YtgiffpohngaonaaGreatDoorKXH3
import Derived.Test.YtgiffpohngaonaaGreatDoorKXO
import Derived.WalkKit
import Derived.ProofKit
import Derived.RowKit3
import Derived.WalkSpells
import Derived.StillTactics
import Derived.Deep.QuietTactic
import Derived.BigQuiet
import Derived.Below
import Derived.Deep.OwnRows
import Derived.OwnWalk
import Derived.Laws.BitsAllLaws
import Derived.Laws.Slices
import Derived.Laws.Bits64b
namespace Go.Proofs.YtgiffpohngaonaaGreatDoor
open Go.RowKit
/-- what the document tells of a ratio -/
def ratW (d : Int) (neg : Bool) (a b : Nat) (exp : Int) : Nat := if 16384 < len32 a ∨ 16384 < len32 b then 9221120237041090561 else if b = 0 then (if a = 0 then 9221120237041090561 else mdW neg 9218868437227405312) else if a = 0 then 0 else mdW neg (finU 53 2098 9218868437227405311 9218868437227405312 (dirN neg d) (rV (dirN neg d) 53 a b (exp + 1074)))
theorem refW_fin (d : Int) (g neg : Bool) (a b a2 b2 : Nat) (e : Int) (hF : FracOf a b e a2 b2) (hg : a ≠ 0 → g = neg) (K : Nat) (hK : K = 1074) : refW 53 K 2098 9218868437227405311 0 d g a2 b2 = if a = 0 then 0 else mdW neg (finU 53 2098 9218868437227405311 9218868437227405312 (dirN neg d) (rV (dirN neg d) 53 a b (e + 1074))) := by
  unfold refW
  by_cases c : a = 0
  · rw [if_pos c, if_pos (hF.2.1.2 c)]
  · rw [if_neg c, if_neg (fun h => c (hF.2.1.1 h)), hg c, hF.2.2.1 _ _ _ c, Nat.pow_zero, Nat.mul_one, show ((K : Nat) : Int) + e = e + 1074 from by omega]
    rfl
theorem rV_zero9 (d : Int) (t : Int) : rV d 53 0 1 t = 0 := by
  unfold rV rU rS rR
  rw [Nat.zero_mul, Nat.zero_div, Nat.zero_mod, upw_none _ _ _ (Nat.mul_pos (Nat.mul_pos (by omega) (Nat.pow_pos (by omega))) (Nat.pow_pos (by omega)))]
  simp
theorem long_iff (a : Nat) : 524288 < blen a ↔ 16384 < len32 a := by
  constructor
  · intro h
    by_cases c : 16384 < len32 a
    · exact c
    · have := blen_len a 16384 (by omega)
      omega
  · intro h
    by_cases c : 524288 < blen a
    · exact c
    · have := dlen a 16384 (by omega)
      unfold len32 at h
      omega
theorem of_rat (d : Int) (neg : Bool) (a : Nat) (exp : Int) : ofW d neg a exp = ratW d neg a 1 exp := by
  unfold ofW ratW
  by_cases c : 524288 < blen a
  · rw [if_pos c, if_pos (Or.inl ((long_iff a).1 c))]
  · rw [if_neg c, if_neg (by rw [len32_one]; have := mt (long_iff a).2 c; omega), if_neg (by decide)]
    by_cases c0 : a = 0
    · have hz : ∀ (dd t : Int), rV dd 53 0 1 t = 0 := fun dd t => rV_zero9 dd t
      rw [if_pos c0, c0, hz]
      have hf : ∀ dd : Int, finU 53 2098 9218868437227405311 9218868437227405312 dd 0 = 0 := fun dd => by unfold finU; rw [blen_zero, if_pos (by omega), rgU_zero]
      rw [hf]; rfl
    · rw [if_neg c0]
      have hb := (blen_spec a c0).2.2
      have hpm : ∀ R, pW 9223372036854775808 neg R = mdW neg R := fun R => rfl
      rw [hpm]
      by_cases ce : conf exp = exp
      · rw [ce]
      · refine congrArg (mdW neg) (fin_clamp (dirN neg d) a 1 a 1 (conf exp + 1074) (exp + 1074) c0 (by decide) c0 (by decide) ?_)
        rw [show blen 1 = 1 from blen_uniq 1 0 (by decide) (by decide)]
        unfold conf at ce ⊢
        omega
end Go.Proofs.YtgiffpohngaonaaGreatDoor
