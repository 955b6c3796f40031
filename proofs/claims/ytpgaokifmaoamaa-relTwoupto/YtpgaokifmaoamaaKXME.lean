import Derived.Test.YtpgaokifmaoamaaProg
import Derived.Test.YtpgaokifmaoamaaKXA0
import Derived.Test.YtpgaokifmaoamaaKXM
import Derived.Test.YtpgaokifmaoamaaKXY
import Derived.Test.YtpgaokifmaoamaaKXQF
import Derived.Test.YtpgaokifmaoamaaKQA
import Derived.Test.YtpgaokifmaoamaaKXQU
import Derived.Test.YtpgaokifmaoamaaKXEA
import Derived.Test.YtpgaokifmaoamaaKXEE
import Derived.Test.YtpgaokifmaoamaaKMR7Q
import Derived.Test.YtpgaokifmaoamaaKXMR
import Derived.Test.YtpgaokifmaoamaaKXM3
import Derived.Test.YtpgaokifmaoamaaKXO
import Derived.Test.YtpgaokifmaoamaaKXO3
import Derived.WalkKit
import Derived.ProofKit
import Derived.RowKit3
import Derived.WalkSpells
import Derived.StillTactics
import Derived.Deep.QuietTactic
import Derived.BigQuiet
import Derived.Below
import Derived.Deep.OwnRows
import Derived.OwnWalk
import Derived.Laws.BitsAllLaws
import Derived.Laws.Slices
import Derived.Laws.Bits64b
import Derived.Laws.FloatArith
import Derived.Deep.RegionHeld3
namespace Go.Proofs.Ytpgaokifmaoamaa
open Go.RowKit

theorem iv_lt8 (n n' : Bool) (m m' : Nat) : Iv n m < Iv n' m' ↔ Fq.plz n m < Fq.plz n' m' := by
  have h1 := Fq.vV_lt_iff Ieee.double m m'
  have h2 := Fq.vV_lt_iff Ieee.double m' m
  have h3 := vV_zero_iff m
  have h4 := vV_zero_iff m'
  unfold Iv Fq.plz
  cases n <;> cases n' <;> simp <;> omega
open Ieee in
theorem fgt8 (n n' : Bool) (m m' : Nat) (h : m < 9223372036854775808) (h' : m' < 9223372036854775808) : (FloatKind.f64.format.order (Fq.wD n m) (Fq.wD n' m') == some Ordering.gt) = decide (m ≤ 9218868437227405312 ∧ m' ≤ 9218868437227405312 ∧ Fq.plz n' m' < Fq.plz n m) := by
  by_cases c : 9218868437227405312 < m
  · rw [Fq.ordD_nanl n m _ c h, decide_eq_false (by omega)]; rfl
  by_cases c' : 9218868437227405312 < m'
  · rw [Fq.ordD_nanr n' m' _ c' h', decide_eq_false (by omega)]; rfl
  rw [Fq.ordD n n' m m' (by omega) (by omega)]
  rcases Int.lt_trichotomy (Fq.plz n m) (Fq.plz n' m') with g | g | g
  · rw [Fq.cmp_lt g, decide_eq_false (by omega)]; rfl
  · rw [Fq.cmp_eq g, decide_eq_false (by omega)]; rfl
  · rw [Fq.cmp_gt g, decide_eq_true ⟨by omega, by omega, by omega⟩]; rfl
end Go.Proofs.Ytpgaokifmaoamaa
