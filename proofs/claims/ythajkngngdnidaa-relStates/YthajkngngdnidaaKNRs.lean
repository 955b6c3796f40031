import Derived.Test.YthajkngngdnidaaProg
import Derived.Test.YthajkngngdnidaaKXA0
import Derived.Test.YthajkngngdnidaaKQM
import Derived.Test.YthajkngngdnidaaKQA
import Derived.Test.YthajkngngdnidaaKXQU
import Derived.Test.YthajkngngdnidaaKEM
import Derived.Test.YthajkngngdnidaaKEN
import Derived.Test.YthajkngngdnidaaKEA
import Derived.Test.YthajkngngdnidaaKEB
import Derived.Test.YthajkngngdnidaaKEH
import Derived.Test.YthajkngngdnidaaKEK
import Derived.Test.YthajkngngdnidaaKEO
import Derived.Test.YthajkngngdnidaaKER
import Derived.Test.YthajkngngdnidaaKES
import Derived.Test.YthajkngngdnidaaKNRv
import Derived.Test.YthajkngngdnidaaKNRm
import Derived.Test.YthajkngngdnidaaKNRa
import Derived.Test.YthajkngngdnidaaKNRb
import Derived.Test.YthajkngngdnidaaKNRo
import Derived.Test.YthajkngngdnidaaKNRp
import Derived.Test.YthajkngngdnidaaKNRq
import Derived.Test.YthajkngngdnidaaKNRr
import Derived.WalkKit
import Derived.ProofKit
import Derived.RowKit3
import Derived.WalkSpells
import Derived.StillTactics
import Derived.Deep.QuietTactic
import Derived.BigQuiet
import Derived.Below
import Derived.Deep.OwnRows
import Derived.OwnWalk
import Derived.Laws.BitsAllLaws
import Derived.Laws.Slices
import Derived.Laws.Bits64b
import Derived.Laws.FloatArith
import Derived.Deep.RegionHeld3
import Derived.Deep.CutRange
import Derived.Deep.DeepCutAuto
namespace Go.Proofs.Ythajkngngdnidaa
open Go.RowKit
theorem ov9_ (a b c d : Nat) (L1 H1 L2 H2 : Int) (hx : Rd a b L1 H1) (hy : Rd c d L2 H2) (w : World) : Calls Try.prog 38 #[.agg #[.float .f64 a, .float .f64 b], .agg #[.float .f64 c, .float .f64 d]] w fun e w' => e = .returned (.int .i64 (ovN L1 H1 L2 H2)) ∧ Kp w w' := by
  have v1 := void9_ L1 H1 hx.vd
  have v2 := void9_ L2 H2 hy.vd
  unfold ovN
  by_cases c1 : L1 = 9218868437227405312
  · rw [decide_eq_true c1] at v1
    rw [if_pos c1]
    by_cases c2 : L2 = 9218868437227405312
    · rw [decide_eq_true c2] at v2
      rw [if_pos c2]
      exact ov00_ a b c d _ _ _ _ hx.call hy.call v1 v2 w
    · rw [decide_eq_false c2] at v2
      rw [if_neg c2]
      exact ov01_ a b c d _ _ _ _ hx.call hy.call v1 v2 w
  rw [decide_eq_false c1] at v1
  rw [if_neg c1]
  by_cases c2 : L2 = 9218868437227405312
  · rw [decide_eq_true c2] at v2
    rw [if_pos c2]
    exact ov10_ a b c d _ _ _ _ hx.call hy.call v1 v2 w
  rw [decide_eq_false c2] at v2
  rw [if_neg c2]
  have e1 := plt9 H1 H2 hx.vd.hi hy.vd.hi
  have e2 := peq9 H1 H2 hx.vd.hi hy.vd.hi
  have e3 := pge9 L1 L2 hx.vd.lo hy.vd.lo
  have u1 := up9_ L1 H1 L2 H2 hx.vd hy.vd
  have u2 := up9_ L2 H2 L1 H1 hy.vd hx.vd
  have ub := upN_bd L2 H2 L1 H1
  by_cases c3 : H1 < H2
  · rw [decide_eq_true c3] at e1
    rw [if_pos (Or.inl c3)]
    exact ovA_ a b c d _ _ _ _ hx.call hy.call v1 v2 e1 _ u1 w
  rw [decide_eq_false c3] at e1
  by_cases c4 : H1 = H2
  · rw [decide_eq_true c4] at e2
    by_cases c5 : L2 ≤ L1
    · rw [decide_eq_true c5] at e3
      rw [if_pos (Or.inr ⟨c4, c5⟩)]
      exact ovB_ a b c d _ _ _ _ hx.call hy.call v1 v2 e1 e2 e3 _ u1 w
    · rw [decide_eq_false c5] at e3
      rw [if_neg (by omega)]
      exact ovC_ a b c d _ _ _ _ hx.call hy.call v1 v2 e1 e2 e3 _ ub.1 ub.2 u2 w
  · rw [decide_eq_false c4] at e2
    rw [if_neg (by omega)]
    exact ovD_ a b c d _ _ _ _ hx.call hy.call v1 v2 e1 e2 _ ub.1 ub.2 u2 w
end Go.Proofs.Ythajkngngdnidaa
