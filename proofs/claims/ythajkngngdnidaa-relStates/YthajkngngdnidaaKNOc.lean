import Derived.Test.YthajkngngdnidaaProg
import Derived.Test.YthajkngngdnidaaKXA0
import Derived.Test.YthajkngngdnidaaKQM
import Derived.Test.YthajkngngdnidaaKQA
import Derived.Test.YthajkngngdnidaaKXQU
import Derived.Test.YthajkngngdnidaaKEM
import Derived.Test.YthajkngngdnidaaKEN
import Derived.Test.YthajkngngdnidaaKEA
import Derived.Test.YthajkngngdnidaaKEB
import Derived.Test.YthajkngngdnidaaKEH
import Derived.Test.YthajkngngdnidaaKEK
import Derived.Test.YthajkngngdnidaaKEO
import Derived.Test.YthajkngngdnidaaKER
import Derived.Test.YthajkngngdnidaaKES
import Derived.Test.YthajkngngdnidaaKNRv
import Derived.Test.YthajkngngdnidaaKNRm
import Derived.Test.YthajkngngdnidaaKNRa
import Derived.Test.YthajkngngdnidaaKNRb
import Derived.Test.YthajkngngdnidaaKNRc
import Derived.Test.YthajkngngdnidaaKNRd
import Derived.Test.YthajkngngdnidaaKNRe
import Derived.Test.YthajkngngdnidaaKNRf
import Derived.Test.YthajkngngdnidaaKNRg
import Derived.Test.YthajkngngdnidaaKNRh
import Derived.Test.YthajkngngdnidaaKNRi
import Derived.Test.YthajkngngdnidaaKNRj
import Derived.Test.YthajkngngdnidaaKNCo
import Derived.Test.YthajkngngdnidaaKNCm
import Derived.Test.YthajkngngdnidaaKNCa
import Derived.Test.YthajkngngdnidaaKNCb
import Derived.Test.YthajkngngdnidaaKNCc
import Derived.Test.YthajkngngdnidaaKNCd
import Derived.Test.YthajkngngdnidaaKNCe
import Derived.Test.YthajkngngdnidaaKNCf
import Derived.Test.YthajkngngdnidaaKNCg
import Derived.Test.YthajkngngdnidaaKNCh
import Derived.Test.YthajkngngdnidaaKNRo
import Derived.Test.YthajkngngdnidaaKNRp
import Derived.Test.YthajkngngdnidaaKNRq
import Derived.Test.YthajkngngdnidaaKNRr
import Derived.Test.YthajkngngdnidaaKNRs
import Derived.Test.YthajkngngdnidaaKNOb
import Derived.Test.YthajkngngdnidaaKNO0
import Derived.Test.YthajkngngdnidaaKNO1
import Derived.Test.YthajkngngdnidaaKNO2
import Derived.Test.YthajkngngdnidaaKNO3
import Derived.Test.YthajkngngdnidaaKNO4
import Derived.Test.YthajkngngdnidaaKNO5
import Derived.WalkKit
import Derived.ProofKit
import Derived.RowKit3
import Derived.WalkSpells
import Derived.StillTactics
import Derived.Deep.QuietTactic
import Derived.BigQuiet
import Derived.Below
import Derived.Deep.OwnRows
import Derived.OwnWalk
import Derived.Laws.BitsAllLaws
import Derived.Laws.Slices
import Derived.Laws.Bits64b
import Derived.Laws.FloatArith
import Derived.Deep.RegionHeld3
import Derived.Deep.CutRange
import Derived.Deep.DeepCutAuto
namespace Go.Proofs.Ythajkngngdnidaa
open Go.RowKit
set_option maxHeartbeats 8000000 in
theorem roverL_ (X1 X2 Y1 Y2 L1 H1 L2 H2 : Int) (h1 : L1 ≤ H1) (h2 : L2 ≤ H2) (c1 : L1 ≠ 9218868437227405312) (c2 : L2 ≠ 9218868437227405312) (hr : ∀ w : World, Calls Try.prog 49 #[.agg #[.int .u64 X1, .int .u64 X2], .agg #[.int .u64 Y1, .int .u64 Y2]] w fun e w' => ∃ P1 Q1 P2 Q2 n : Nat, e = .returned (.tuple #[.agg #[.bool false, .int .i64 ((P1 : Nat) : Int), .int .i64 ((Q1 : Nat) : Int)], .agg #[.bool false, .int .i64 ((P2 : Nat) : Int), .int .i64 ((Q2 : Nat) : Int)], .int .i64 (n : Int)]) ∧ RowOk L1 H1 L2 H2 P1 Q1 P2 Q2 n ∧ Kp w w') (w : World) : Calls Try.prog 39 #[.agg #[.int .u64 X1, .int .u64 X2], .agg #[.int .u64 Y1, .int .u64 Y2]] w fun e w' => e = .returned (.int .i64 (ovN L1 H1 L2 H2)) ∧ Kp w w' := by
  · rcases Int.lt_trichotomy L1 H1 with z0 | z0 | z0
    · rcases Int.lt_trichotomy L2 H2 with z1 | z1 | z1
      · rcases Int.lt_trichotomy H1 L2 with z2 | z2 | z2
        · rcases Int.lt_trichotomy L1 H2 with z3 | z3 | z3
          · rcases Int.lt_trichotomy L1 L2 with z4 | z4 | z4
            · rcases Int.lt_trichotomy H1 H2 with z5 | z5 | z5
              · rw [show ovN L1 H1 L2 H2 = 3 from by
                  unfold ovN upN
                  rw [if_neg c1, if_neg c2]
                  repeat' split
                  all_goals omega]
                refine rovk10_ X1 X2 Y1 Y2 (fun w => (hr w).mono ?_) w
                rintro e w' ⟨P1, Q1, P2, Q2, n, h9, ⟨_, _, _, _, _, _, _, f1, f2, f3, f4, f5, f6, f7, f8, g1, g2, g3, g4⟩, hk⟩
                exact ⟨P1, Q1, P2, Q2, n, h9, ⟨f1.1 (by omega), f5.1 (by omega), g1.1 (by omega), g4.1 (by omega), f7.1 (by omega), f3.1 (by omega)⟩, hk⟩
              · exfalso; omega
              · exfalso; omega
            · exfalso; omega
            · exfalso; omega
          · exfalso; omega
          · exfalso; omega
        · rcases Int.lt_trichotomy L1 H2 with z3 | z3 | z3
          · rcases Int.lt_trichotomy L1 L2 with z4 | z4 | z4
            · rcases Int.lt_trichotomy H1 H2 with z5 | z5 | z5
              · rw [show ovN L1 H1 L2 H2 = 4 from by
                  unfold ovN upN
                  rw [if_neg c1, if_neg c2]
                  repeat' split
                  all_goals omega]
                refine rovk8_ X1 X2 Y1 Y2 (fun w => (hr w).mono ?_) w
                rintro e w' ⟨P1, Q1, P2, Q2, n, h9, ⟨_, _, _, _, _, _, _, f1, f2, f3, f4, f5, f6, f7, f8, g1, g2, g3, g4⟩, hk⟩
                exact ⟨P1, Q1, P2, Q2, n, h9, ⟨f1.1 (by omega), f5.1 (by omega), g1.1 (by omega), Nat.le_antisymm (Nat.not_lt.1 (fun x => by have := g3.2 x; omega)) (Nat.not_lt.1 (fun x => by have := g4.2 x; omega)), f7.1 (by omega), f3.1 (by omega)⟩, hk⟩
              · exfalso; omega
              · exfalso; omega
            · exfalso; omega
            · exfalso; omega
          · exfalso; omega
          · exfalso; omega
        · rcases Int.lt_trichotomy L1 H2 with z3 | z3 | z3
          · rcases Int.lt_trichotomy L1 L2 with z4 | z4 | z4
            · rcases Int.lt_trichotomy H1 H2 with z5 | z5 | z5
              · rw [show ovN L1 H1 L2 H2 = 5 from by
                  unfold ovN upN
                  rw [if_neg c1, if_neg c2]
                  repeat' split
                  all_goals omega]
                refine rovk14_ X1 X2 Y1 Y2 (fun w => (hr w).mono ?_) w
                rintro e w' ⟨P1, Q1, P2, Q2, n, h9, ⟨_, _, _, _, _, _, _, f1, f2, f3, f4, f5, f6, f7, f8, g1, g2, g3, g4⟩, hk⟩
                exact ⟨P1, Q1, P2, Q2, n, h9, ⟨f1.1 (by omega), f5.1 (by omega), g1.1 (by omega), g3.1 (by omega), f7.1 (by omega), f3.1 (by omega)⟩, hk⟩
              · rw [show ovN L1 H1 L2 H2 = 10 from by
                  unfold ovN upN
                  rw [if_neg c1, if_neg c2]
                  repeat' split
                  all_goals omega]
                refine rovk13_ X1 X2 Y1 Y2 (fun w => (hr w).mono ?_) w
                rintro e w' ⟨P1, Q1, P2, Q2, n, h9, ⟨_, _, _, _, _, _, _, f1, f2, f3, f4, f5, f6, f7, f8, g1, g2, g3, g4⟩, hk⟩
                exact ⟨P1, Q1, P2, Q2, n, h9, ⟨f1.1 (by omega), f5.1 (by omega), g1.1 (by omega), g3.1 (by omega), Nat.le_antisymm (Nat.not_lt.1 (fun x => by have := f8.2 x; omega)) (Nat.not_lt.1 (fun x => by have := f7.2 x; omega)), f3.1 (by omega)⟩, hk⟩
              · rw [show ovN L1 H1 L2 H2 = 11 from by
                  unfold ovN upN
                  rw [if_neg c1, if_neg c2]
                  repeat' split
                  all_goals omega]
                refine rovk15_ X1 X2 Y1 Y2 (fun w => (hr w).mono ?_) w
                rintro e w' ⟨P1, Q1, P2, Q2, n, h9, ⟨_, _, _, _, _, _, _, f1, f2, f3, f4, f5, f6, f7, f8, g1, g2, g3, g4⟩, hk⟩
                exact ⟨P1, Q1, P2, Q2, n, h9, ⟨f1.1 (by omega), f5.1 (by omega), g1.1 (by omega), g3.1 (by omega), f8.1 (by omega), f3.1 (by omega)⟩, hk⟩
            · rcases Int.lt_trichotomy H1 H2 with z5 | z5 | z5
              · rw [show ovN L1 H1 L2 H2 = 6 from by
                  unfold ovN upN
                  rw [if_neg c1, if_neg c2]
                  repeat' split
                  all_goals omega]
                refine rovk6_ X1 X2 Y1 Y2 (fun w => (hr w).mono ?_) w
                rintro e w' ⟨P1, Q1, P2, Q2, n, h9, ⟨_, _, _, _, _, _, _, f1, f2, f3, f4, f5, f6, f7, f8, g1, g2, g3, g4⟩, hk⟩
                exact ⟨P1, Q1, P2, Q2, n, h9, ⟨f1.1 (by omega), Nat.le_antisymm (Nat.not_lt.1 (fun x => by have := f6.2 x; omega)) (Nat.not_lt.1 (fun x => by have := f5.2 x; omega)), g1.1 (by omega), g3.1 (by omega), f7.1 (by omega), f3.1 (by omega)⟩, hk⟩
              · rw [show ovN L1 H1 L2 H2 = 9 from by
                  unfold ovN upN
                  rw [if_neg c1, if_neg c2]
                  repeat' split
                  all_goals omega]
                refine rovk5_ X1 X2 Y1 Y2 (fun w => (hr w).mono ?_) w
                rintro e w' ⟨P1, Q1, P2, Q2, n, h9, ⟨_, _, _, _, _, _, _, f1, f2, f3, f4, f5, f6, f7, f8, g1, g2, g3, g4⟩, hk⟩
                exact ⟨P1, Q1, P2, Q2, n, h9, ⟨f1.1 (by omega), Nat.le_antisymm (Nat.not_lt.1 (fun x => by have := f6.2 x; omega)) (Nat.not_lt.1 (fun x => by have := f5.2 x; omega)), g1.1 (by omega), g3.1 (by omega), Nat.le_antisymm (Nat.not_lt.1 (fun x => by have := f8.2 x; omega)) (Nat.not_lt.1 (fun x => by have := f7.2 x; omega)), f3.1 (by omega)⟩, hk⟩
              · rw [show ovN L1 H1 L2 H2 = 12 from by
                  unfold ovN upN
                  rw [if_neg c1, if_neg c2]
                  repeat' split
                  all_goals omega]
                refine rovk11_ X1 X2 Y1 Y2 (fun w => (hr w).mono ?_) w
                rintro e w' ⟨P1, Q1, P2, Q2, n, h9, ⟨_, _, _, _, _, _, _, f1, f2, f3, f4, f5, f6, f7, f8, g1, g2, g3, g4⟩, hk⟩
                exact ⟨P1, Q1, P2, Q2, n, h9, ⟨f1.1 (by omega), Nat.le_antisymm (Nat.not_lt.1 (fun x => by have := f6.2 x; omega)) (Nat.not_lt.1 (fun x => by have := f5.2 x; omega)), g1.1 (by omega), g3.1 (by omega), f8.1 (by omega), f3.1 (by omega)⟩, hk⟩
            · rcases Int.lt_trichotomy H1 H2 with z5 | z5 | z5
              · rw [show ovN L1 H1 L2 H2 = 7 from by
                  unfold ovN upN
                  rw [if_neg c1, if_neg c2]
                  repeat' split
                  all_goals omega]
                refine rovk22_ X1 X2 Y1 Y2 (fun w => (hr w).mono ?_) w
                rintro e w' ⟨P1, Q1, P2, Q2, n, h9, ⟨_, _, _, _, _, _, _, f1, f2, f3, f4, f5, f6, f7, f8, g1, g2, g3, g4⟩, hk⟩
                exact ⟨P1, Q1, P2, Q2, n, h9, ⟨f1.1 (by omega), f6.1 (by omega), g1.1 (by omega), g3.1 (by omega), f7.1 (by omega), f3.1 (by omega)⟩, hk⟩
              · rw [show ovN L1 H1 L2 H2 = 8 from by
                  unfold ovN upN
                  rw [if_neg c1, if_neg c2]
                  repeat' split
                  all_goals omega]
                refine rovk21_ X1 X2 Y1 Y2 (fun w => (hr w).mono ?_) w
                rintro e w' ⟨P1, Q1, P2, Q2, n, h9, ⟨_, _, _, _, _, _, _, f1, f2, f3, f4, f5, f6, f7, f8, g1, g2, g3, g4⟩, hk⟩
                exact ⟨P1, Q1, P2, Q2, n, h9, ⟨f1.1 (by omega), f6.1 (by omega), g1.1 (by omega), g3.1 (by omega), Nat.le_antisymm (Nat.not_lt.1 (fun x => by have := f8.2 x; omega)) (Nat.not_lt.1 (fun x => by have := f7.2 x; omega)), f3.1 (by omega)⟩, hk⟩
              · rw [show ovN L1 H1 L2 H2 = 13 from by
                  unfold ovN upN
                  rw [if_neg c1, if_neg c2]
                  repeat' split
                  all_goals omega]
                refine rovk23_ X1 X2 Y1 Y2 (fun w => (hr w).mono ?_) w
                rintro e w' ⟨P1, Q1, P2, Q2, n, h9, ⟨_, _, _, _, _, _, _, f1, f2, f3, f4, f5, f6, f7, f8, g1, g2, g3, g4⟩, hk⟩
                exact ⟨P1, Q1, P2, Q2, n, h9, ⟨f1.1 (by omega), f6.1 (by omega), g1.1 (by omega), g3.1 (by omega), f8.1 (by omega), f3.1 (by omega)⟩, hk⟩
          · rcases Int.lt_trichotomy L1 L2 with z4 | z4 | z4
            · exfalso; omega
            · exfalso; omega
            · rcases Int.lt_trichotomy H1 H2 with z5 | z5 | z5
              · exfalso; omega
              · exfalso; omega
              · rw [show ovN L1 H1 L2 H2 = 14 from by
                  unfold ovN upN
                  rw [if_neg c1, if_neg c2]
                  repeat' split
                  all_goals omega]
                refine rovk20_ X1 X2 Y1 Y2 (fun w => (hr w).mono ?_) w
                rintro e w' ⟨P1, Q1, P2, Q2, n, h9, ⟨_, _, _, _, _, _, _, f1, f2, f3, f4, f5, f6, f7, f8, g1, g2, g3, g4⟩, hk⟩
                exact ⟨P1, Q1, P2, Q2, n, h9, ⟨f1.1 (by omega), f6.1 (by omega), Nat.le_antisymm (Nat.not_lt.1 (fun x => by have := g2.2 x; omega)) (Nat.not_lt.1 (fun x => by have := g1.2 x; omega)), g3.1 (by omega), f8.1 (by omega), f3.1 (by omega)⟩, hk⟩
          · rcases Int.lt_trichotomy L1 L2 with z4 | z4 | z4
            · exfalso; omega
            · exfalso; omega
            · rcases Int.lt_trichotomy H1 H2 with z5 | z5 | z5
              · exfalso; omega
              · exfalso; omega
              · rw [show ovN L1 H1 L2 H2 = 15 from by
                  unfold ovN upN
                  rw [if_neg c1, if_neg c2]
                  repeat' split
                  all_goals omega]
                refine rovk25_ X1 X2 Y1 Y2 (fun w => (hr w).mono ?_) w
                rintro e w' ⟨P1, Q1, P2, Q2, n, h9, ⟨_, _, _, _, _, _, _, f1, f2, f3, f4, f5, f6, f7, f8, g1, g2, g3, g4⟩, hk⟩
                exact ⟨P1, Q1, P2, Q2, n, h9, ⟨f1.1 (by omega), f6.1 (by omega), g2.1 (by omega), g3.1 (by omega), f8.1 (by omega), f3.1 (by omega)⟩, hk⟩
      · rcases Int.lt_trichotomy H1 L2 with z2 | z2 | z2
        · rcases Int.lt_trichotomy L1 H2 with z3 | z3 | z3
          · rcases Int.lt_trichotomy L1 L2 with z4 | z4 | z4
            · rcases Int.lt_trichotomy H1 H2 with z5 | z5 | z5
              · rw [show ovN L1 H1 L2 H2 = 3 from by
                  unfold ovN upN
                  rw [if_neg c1, if_neg c2]
                  repeat' split
                  all_goals omega]
                refine rovk9_ X1 X2 Y1 Y2 (fun w => (hr w).mono ?_) w
                rintro e w' ⟨P1, Q1, P2, Q2, n, h9, ⟨_, _, _, _, _, _, _, f1, f2, f3, f4, f5, f6, f7, f8, g1, g2, g3, g4⟩, hk⟩
                exact ⟨P1, Q1, P2, Q2, n, h9, ⟨f1.1 (by omega), f5.1 (by omega), g1.1 (by omega), g4.1 (by omega), f7.1 (by omega), Nat.le_antisymm (Nat.not_lt.1 (fun x => by have := f4.2 x; omega)) (Nat.not_lt.1 (fun x => by have := f3.2 x; omega))⟩, hk⟩
              · exfalso; omega
              · exfalso; omega
            · exfalso; omega
            · exfalso; omega
          · exfalso; omega
          · exfalso; omega
        · rcases Int.lt_trichotomy L1 H2 with z3 | z3 | z3
          · rcases Int.lt_trichotomy L1 L2 with z4 | z4 | z4
            · rcases Int.lt_trichotomy H1 H2 with z5 | z5 | z5
              · exfalso; omega
              · rw [show ovN L1 H1 L2 H2 = 10 from by
                  unfold ovN upN
                  rw [if_neg c1, if_neg c2]
                  repeat' split
                  all_goals omega]
                refine rovk7_ X1 X2 Y1 Y2 (fun w => (hr w).mono ?_) w
                rintro e w' ⟨P1, Q1, P2, Q2, n, h9, ⟨_, _, _, _, _, _, _, f1, f2, f3, f4, f5, f6, f7, f8, g1, g2, g3, g4⟩, hk⟩
                exact ⟨P1, Q1, P2, Q2, n, h9, ⟨f1.1 (by omega), f5.1 (by omega), g1.1 (by omega), Nat.le_antisymm (Nat.not_lt.1 (fun x => by have := g3.2 x; omega)) (Nat.not_lt.1 (fun x => by have := g4.2 x; omega)), Nat.le_antisymm (Nat.not_lt.1 (fun x => by have := f8.2 x; omega)) (Nat.not_lt.1 (fun x => by have := f7.2 x; omega)), Nat.le_antisymm (Nat.not_lt.1 (fun x => by have := f4.2 x; omega)) (Nat.not_lt.1 (fun x => by have := f3.2 x; omega))⟩, hk⟩
              · exfalso; omega
            · exfalso; omega
            · exfalso; omega
          · exfalso; omega
          · exfalso; omega
        · rcases Int.lt_trichotomy L1 H2 with z3 | z3 | z3
          · rcases Int.lt_trichotomy L1 L2 with z4 | z4 | z4
            · rcases Int.lt_trichotomy H1 H2 with z5 | z5 | z5
              · exfalso; omega
              · exfalso; omega
              · rw [show ovN L1 H1 L2 H2 = 11 from by
                  unfold ovN upN
                  rw [if_neg c1, if_neg c2]
                  repeat' split
                  all_goals omega]
                refine rovk12_ X1 X2 Y1 Y2 (fun w => (hr w).mono ?_) w
                rintro e w' ⟨P1, Q1, P2, Q2, n, h9, ⟨_, _, _, _, _, _, _, f1, f2, f3, f4, f5, f6, f7, f8, g1, g2, g3, g4⟩, hk⟩
                exact ⟨P1, Q1, P2, Q2, n, h9, ⟨f1.1 (by omega), f5.1 (by omega), g1.1 (by omega), g3.1 (by omega), f8.1 (by omega), Nat.le_antisymm (Nat.not_lt.1 (fun x => by have := f4.2 x; omega)) (Nat.not_lt.1 (fun x => by have := f3.2 x; omega))⟩, hk⟩
            · exfalso; omega
            · exfalso; omega
          · rcases Int.lt_trichotomy L1 L2 with z4 | z4 | z4
            · exfalso; omega
            · rcases Int.lt_trichotomy H1 H2 with z5 | z5 | z5
              · exfalso; omega
              · exfalso; omega
              · rw [show ovN L1 H1 L2 H2 = 12 from by
                  unfold ovN upN
                  rw [if_neg c1, if_neg c2]
                  repeat' split
                  all_goals omega]
                refine rovk4_ X1 X2 Y1 Y2 (fun w => (hr w).mono ?_) w
                rintro e w' ⟨P1, Q1, P2, Q2, n, h9, ⟨_, _, _, _, _, _, _, f1, f2, f3, f4, f5, f6, f7, f8, g1, g2, g3, g4⟩, hk⟩
                exact ⟨P1, Q1, P2, Q2, n, h9, ⟨f1.1 (by omega), Nat.le_antisymm (Nat.not_lt.1 (fun x => by have := f6.2 x; omega)) (Nat.not_lt.1 (fun x => by have := f5.2 x; omega)), Nat.le_antisymm (Nat.not_lt.1 (fun x => by have := g2.2 x; omega)) (Nat.not_lt.1 (fun x => by have := g1.2 x; omega)), g3.1 (by omega), f8.1 (by omega), Nat.le_antisymm (Nat.not_lt.1 (fun x => by have := f4.2 x; omega)) (Nat.not_lt.1 (fun x => by have := f3.2 x; omega))⟩, hk⟩
            · exfalso; omega
          · rcases Int.lt_trichotomy L1 L2 with z4 | z4 | z4
            · exfalso; omega
            · exfalso; omega
            · rcases Int.lt_trichotomy H1 H2 with z5 | z5 | z5
              · exfalso; omega
              · exfalso; omega
              · rw [show ovN L1 H1 L2 H2 = 15 from by
                  unfold ovN upN
                  rw [if_neg c1, if_neg c2]
                  repeat' split
                  all_goals omega]
                refine rovk19_ X1 X2 Y1 Y2 (fun w => (hr w).mono ?_) w
                rintro e w' ⟨P1, Q1, P2, Q2, n, h9, ⟨_, _, _, _, _, _, _, f1, f2, f3, f4, f5, f6, f7, f8, g1, g2, g3, g4⟩, hk⟩
                exact ⟨P1, Q1, P2, Q2, n, h9, ⟨f1.1 (by omega), f6.1 (by omega), g2.1 (by omega), g3.1 (by omega), f8.1 (by omega), Nat.le_antisymm (Nat.not_lt.1 (fun x => by have := f4.2 x; omega)) (Nat.not_lt.1 (fun x => by have := f3.2 x; omega))⟩, hk⟩
      · exfalso; omega
    · rcases Int.lt_trichotomy L2 H2 with z1 | z1 | z1
      · rcases Int.lt_trichotomy H1 L2 with z2 | z2 | z2
        · rcases Int.lt_trichotomy L1 H2 with z3 | z3 | z3
          · rcases Int.lt_trichotomy L1 L2 with z4 | z4 | z4
            · rcases Int.lt_trichotomy H1 H2 with z5 | z5 | z5
              · rw [show ovN L1 H1 L2 H2 = 3 from by
                  unfold ovN upN
                  rw [if_neg c1, if_neg c2]
                  repeat' split
                  all_goals omega]
                refine rovk3_ X1 X2 Y1 Y2 (fun w => (hr w).mono ?_) w
                rintro e w' ⟨P1, Q1, P2, Q2, n, h9, ⟨_, _, _, _, _, _, _, f1, f2, f3, f4, f5, f6, f7, f8, g1, g2, g3, g4⟩, hk⟩
                exact ⟨P1, Q1, P2, Q2, n, h9, ⟨Nat.le_antisymm (Nat.not_lt.1 (fun x => by have := f2.2 x; omega)) (Nat.not_lt.1 (fun x => by have := f1.2 x; omega)), f5.1 (by omega), g1.1 (by omega), g4.1 (by omega), f7.1 (by omega), f3.1 (by omega)⟩, hk⟩
              · exfalso; omega
              · exfalso; omega
            · exfalso; omega
            · exfalso; omega
          · exfalso; omega
          · exfalso; omega
        · rcases Int.lt_trichotomy L1 H2 with z3 | z3 | z3
          · rcases Int.lt_trichotomy L1 L2 with z4 | z4 | z4
            · exfalso; omega
            · rcases Int.lt_trichotomy H1 H2 with z5 | z5 | z5
              · rw [show ovN L1 H1 L2 H2 = 6 from by
                  unfold ovN upN
                  rw [if_neg c1, if_neg c2]
                  repeat' split
                  all_goals omega]
                refine rovk1_ X1 X2 Y1 Y2 (fun w => (hr w).mono ?_) w
                rintro e w' ⟨P1, Q1, P2, Q2, n, h9, ⟨_, _, _, _, _, _, _, f1, f2, f3, f4, f5, f6, f7, f8, g1, g2, g3, g4⟩, hk⟩
                exact ⟨P1, Q1, P2, Q2, n, h9, ⟨Nat.le_antisymm (Nat.not_lt.1 (fun x => by have := f2.2 x; omega)) (Nat.not_lt.1 (fun x => by have := f1.2 x; omega)), Nat.le_antisymm (Nat.not_lt.1 (fun x => by have := f6.2 x; omega)) (Nat.not_lt.1 (fun x => by have := f5.2 x; omega)), g1.1 (by omega), Nat.le_antisymm (Nat.not_lt.1 (fun x => by have := g3.2 x; omega)) (Nat.not_lt.1 (fun x => by have := g4.2 x; omega)), f7.1 (by omega), f3.1 (by omega)⟩, hk⟩
              · exfalso; omega
              · exfalso; omega
            · exfalso; omega
          · exfalso; omega
          · exfalso; omega
        · rcases Int.lt_trichotomy L1 H2 with z3 | z3 | z3
          · rcases Int.lt_trichotomy L1 L2 with z4 | z4 | z4
            · exfalso; omega
            · exfalso; omega
            · rcases Int.lt_trichotomy H1 H2 with z5 | z5 | z5
              · rw [show ovN L1 H1 L2 H2 = 7 from by
                  unfold ovN upN
                  rw [if_neg c1, if_neg c2]
                  repeat' split
                  all_goals omega]
                refine rovk18_ X1 X2 Y1 Y2 (fun w => (hr w).mono ?_) w
                rintro e w' ⟨P1, Q1, P2, Q2, n, h9, ⟨_, _, _, _, _, _, _, f1, f2, f3, f4, f5, f6, f7, f8, g1, g2, g3, g4⟩, hk⟩
                exact ⟨P1, Q1, P2, Q2, n, h9, ⟨Nat.le_antisymm (Nat.not_lt.1 (fun x => by have := f2.2 x; omega)) (Nat.not_lt.1 (fun x => by have := f1.2 x; omega)), f6.1 (by omega), g1.1 (by omega), g3.1 (by omega), f7.1 (by omega), f3.1 (by omega)⟩, hk⟩
              · exfalso; omega
              · exfalso; omega
          · rcases Int.lt_trichotomy L1 L2 with z4 | z4 | z4
            · exfalso; omega
            · exfalso; omega
            · rcases Int.lt_trichotomy H1 H2 with z5 | z5 | z5
              · exfalso; omega
              · rw [show ovN L1 H1 L2 H2 = 8 from by
                  unfold ovN upN
                  rw [if_neg c1, if_neg c2]
                  repeat' split
                  all_goals omega]
                refine rovk17_ X1 X2 Y1 Y2 (fun w => (hr w).mono ?_) w
                rintro e w' ⟨P1, Q1, P2, Q2, n, h9, ⟨_, _, _, _, _, _, _, f1, f2, f3, f4, f5, f6, f7, f8, g1, g2, g3, g4⟩, hk⟩
                exact ⟨P1, Q1, P2, Q2, n, h9, ⟨Nat.le_antisymm (Nat.not_lt.1 (fun x => by have := f2.2 x; omega)) (Nat.not_lt.1 (fun x => by have := f1.2 x; omega)), f6.1 (by omega), Nat.le_antisymm (Nat.not_lt.1 (fun x => by have := g2.2 x; omega)) (Nat.not_lt.1 (fun x => by have := g1.2 x; omega)), g3.1 (by omega), Nat.le_antisymm (Nat.not_lt.1 (fun x => by have := f8.2 x; omega)) (Nat.not_lt.1 (fun x => by have := f7.2 x; omega)), f3.1 (by omega)⟩, hk⟩
              · exfalso; omega
          · rcases Int.lt_trichotomy L1 L2 with z4 | z4 | z4
            · exfalso; omega
            · exfalso; omega
            · rcases Int.lt_trichotomy H1 H2 with z5 | z5 | z5
              · exfalso; omega
              · exfalso; omega
              · rw [show ovN L1 H1 L2 H2 = 15 from by
                  unfold ovN upN
                  rw [if_neg c1, if_neg c2]
                  repeat' split
                  all_goals omega]
                refine rovk24_ X1 X2 Y1 Y2 (fun w => (hr w).mono ?_) w
                rintro e w' ⟨P1, Q1, P2, Q2, n, h9, ⟨_, _, _, _, _, _, _, f1, f2, f3, f4, f5, f6, f7, f8, g1, g2, g3, g4⟩, hk⟩
                exact ⟨P1, Q1, P2, Q2, n, h9, ⟨Nat.le_antisymm (Nat.not_lt.1 (fun x => by have := f2.2 x; omega)) (Nat.not_lt.1 (fun x => by have := f1.2 x; omega)), f6.1 (by omega), g2.1 (by omega), g3.1 (by omega), f8.1 (by omega), f3.1 (by omega)⟩, hk⟩
      · rcases Int.lt_trichotomy H1 L2 with z2 | z2 | z2
        · rcases Int.lt_trichotomy L1 H2 with z3 | z3 | z3
          · rcases Int.lt_trichotomy L1 L2 with z4 | z4 | z4
            · rcases Int.lt_trichotomy H1 H2 with z5 | z5 | z5
              · rw [show ovN L1 H1 L2 H2 = 3 from by
                  unfold ovN upN
                  rw [if_neg c1, if_neg c2]
                  repeat' split
                  all_goals omega]
                refine rovk2_ X1 X2 Y1 Y2 (fun w => (hr w).mono ?_) w
                rintro e w' ⟨P1, Q1, P2, Q2, n, h9, ⟨_, _, _, _, _, _, _, f1, f2, f3, f4, f5, f6, f7, f8, g1, g2, g3, g4⟩, hk⟩
                exact ⟨P1, Q1, P2, Q2, n, h9, ⟨Nat.le_antisymm (Nat.not_lt.1 (fun x => by have := f2.2 x; omega)) (Nat.not_lt.1 (fun x => by have := f1.2 x; omega)), f5.1 (by omega), g1.1 (by omega), g4.1 (by omega), f7.1 (by omega), Nat.le_antisymm (Nat.not_lt.1 (fun x => by have := f4.2 x; omega)) (Nat.not_lt.1 (fun x => by have := f3.2 x; omega))⟩, hk⟩
              · exfalso; omega
              · exfalso; omega
            · exfalso; omega
            · exfalso; omega
          · exfalso; omega
          · exfalso; omega
        · rcases Int.lt_trichotomy L1 H2 with z3 | z3 | z3
          · exfalso; omega
          · rcases Int.lt_trichotomy L1 L2 with z4 | z4 | z4
            · exfalso; omega
            · rcases Int.lt_trichotomy H1 H2 with z5 | z5 | z5
              · exfalso; omega
              · rw [show ovN L1 H1 L2 H2 = 9 from by
                  unfold ovN upN
                  rw [if_neg c1, if_neg c2]
                  repeat' split
                  all_goals omega]
                refine rovk0_ X1 X2 Y1 Y2 (fun w => (hr w).mono ?_) w
                rintro e w' ⟨P1, Q1, P2, Q2, n, h9, ⟨_, _, _, _, _, _, _, f1, f2, f3, f4, f5, f6, f7, f8, g1, g2, g3, g4⟩, hk⟩
                exact ⟨P1, Q1, P2, Q2, n, h9, ⟨Nat.le_antisymm (Nat.not_lt.1 (fun x => by have := f2.2 x; omega)) (Nat.not_lt.1 (fun x => by have := f1.2 x; omega)), Nat.le_antisymm (Nat.not_lt.1 (fun x => by have := f6.2 x; omega)) (Nat.not_lt.1 (fun x => by have := f5.2 x; omega)), Nat.le_antisymm (Nat.not_lt.1 (fun x => by have := g2.2 x; omega)) (Nat.not_lt.1 (fun x => by have := g1.2 x; omega)), Nat.le_antisymm (Nat.not_lt.1 (fun x => by have := g3.2 x; omega)) (Nat.not_lt.1 (fun x => by have := g4.2 x; omega)), Nat.le_antisymm (Nat.not_lt.1 (fun x => by have := f8.2 x; omega)) (Nat.not_lt.1 (fun x => by have := f7.2 x; omega)), Nat.le_antisymm (Nat.not_lt.1 (fun x => by have := f4.2 x; omega)) (Nat.not_lt.1 (fun x => by have := f3.2 x; omega))⟩, hk⟩
              · exfalso; omega
            · exfalso; omega
          · exfalso; omega
        · rcases Int.lt_trichotomy L1 H2 with z3 | z3 | z3
          · exfalso; omega
          · exfalso; omega
          · rcases Int.lt_trichotomy L1 L2 with z4 | z4 | z4
            · exfalso; omega
            · exfalso; omega
            · rcases Int.lt_trichotomy H1 H2 with z5 | z5 | z5
              · exfalso; omega
              · exfalso; omega
              · rw [show ovN L1 H1 L2 H2 = 15 from by
                  unfold ovN upN
                  rw [if_neg c1, if_neg c2]
                  repeat' split
                  all_goals omega]
                refine rovk16_ X1 X2 Y1 Y2 (fun w => (hr w).mono ?_) w
                rintro e w' ⟨P1, Q1, P2, Q2, n, h9, ⟨_, _, _, _, _, _, _, f1, f2, f3, f4, f5, f6, f7, f8, g1, g2, g3, g4⟩, hk⟩
                exact ⟨P1, Q1, P2, Q2, n, h9, ⟨Nat.le_antisymm (Nat.not_lt.1 (fun x => by have := f2.2 x; omega)) (Nat.not_lt.1 (fun x => by have := f1.2 x; omega)), f6.1 (by omega), g2.1 (by omega), g3.1 (by omega), f8.1 (by omega), Nat.le_antisymm (Nat.not_lt.1 (fun x => by have := f4.2 x; omega)) (Nat.not_lt.1 (fun x => by have := f3.2 x; omega))⟩, hk⟩
      · exfalso; omega
    · exfalso; omega
theorem rover9_ (X1 X2 Y1 Y2 L1 H1 L2 H2 : Int) (d1 : VdZ L1 H1) (d2 : VdZ L2 H2) (hx : ∀ w : World, Calls Try.prog 10 #[.agg #[.int .u64 X1, .int .u64 X2]] w fun e w' => e = .returned (.agg #[.int .u64 (pI L1), .int .u64 (pI H1)]) ∧ Kp w w') (hy : ∀ w : World, Calls Try.prog 10 #[.agg #[.int .u64 Y1, .int .u64 Y2]] w fun e w' => e = .returned (.agg #[.int .u64 (pI L2), .int .u64 (pI H2)]) ∧ Kp w w') (w : World) : Calls Try.prog 39 #[.agg #[.int .u64 X1, .int .u64 X2], .agg #[.int .u64 Y1, .int .u64 Y2]] w fun e w' => e = .returned (.int .i64 (ovN L1 H1 L2 H2)) ∧ Kp w w' := by
  have hr : ∀ w : World, _ := rowsZ_ X1 X2 Y1 Y2 L1 H1 L2 H2 d1 d2 hx hy
  by_cases c1 : L1 = 9218868437227405312
  · rw [decide_eq_true c1] at hr
    by_cases c2 : L2 = 9218868437227405312
    · rw [decide_eq_true c2] at hr
      rw [show ovN L1 H1 L2 H2 = 0 from by unfold ovN; rw [if_pos c1, if_pos c2]]
      exact rover0_ X1 X2 Y1 Y2 (fun _ _ _ _ => True) (fun w => (hr w).mono (fun e w' ⟨P1, Q1, P2, Q2, n, h1, _, h3⟩ => ⟨P1, Q1, P2, Q2, n, h1, trivial, h3⟩)) w
    · rw [decide_eq_false c2] at hr
      rw [show ovN L1 H1 L2 H2 = 1 from by unfold ovN; rw [if_pos c1, if_neg c2]]
      exact rover1_ X1 X2 Y1 Y2 (fun _ _ _ _ => True) (fun w => (hr w).mono (fun e w' ⟨P1, Q1, P2, Q2, n, h1, _, h3⟩ => ⟨P1, Q1, P2, Q2, n, h1, trivial, h3⟩)) w
  · rw [decide_eq_false c1] at hr
    by_cases c2 : L2 = 9218868437227405312
    · rw [decide_eq_true c2] at hr
      rw [show ovN L1 H1 L2 H2 = 2 from by unfold ovN; rw [if_neg c1, if_pos c2]]
      exact rover2_ X1 X2 Y1 Y2 (fun _ _ _ _ => True) (fun w => (hr w).mono (fun e w' ⟨P1, Q1, P2, Q2, n, h1, _, h3⟩ => ⟨P1, Q1, P2, Q2, n, h1, trivial, h3⟩)) w
    · rw [decide_eq_false c2] at hr
      unfold VdZ at d1 d2
      have h1 : L1 ≤ H1 := by omega
      have h2 : L2 ≤ H2 := by omega
      exact roverL_ X1 X2 Y1 Y2 L1 H1 L2 H2 h1 h2 c1 c2 hr w
set_option maxRecDepth 20000 in
set_option maxHeartbeats 4000000 in
theorem statesA_ (X1 X2 Y1 Y2 K : Int) (A1 A2 B1 B2 : Nat) (hin1 : ∀ w : World, Calls Try.prog 11 #[.agg #[.int .u64 X1, .int .u64 X2]] w fun e w' => e = .returned (.agg #[.float .f64 A1, .float .f64 A2]) ∧ Kp w w') (hin2 : ∀ w : World, Calls Try.prog 11 #[.agg #[.int .u64 Y1, .int .u64 Y2]] w fun e w' => e = .returned (.agg #[.float .f64 B1, .float .f64 B2]) ∧ Kp w w') (hp : ∀ w : World, Calls Try.prog 38 #[.agg #[.float .f64 A1, .float .f64 A2], .agg #[.float .f64 B1, .float .f64 B2]] w fun e w' => e = .returned (.int .i64 K) ∧ Kp w w') (hr : ∀ w : World, Calls Try.prog 39 #[.agg #[.int .u64 X1, .int .u64 X2], .agg #[.int .u64 Y1, .int .u64 Y2]] w fun e w' => e = .returned (.int .i64 K) ∧ Kp w w') (w : World) : Calls Try.prog 8 #[.agg #[.int .u64 X1, .int .u64 X2], .agg #[.int .u64 Y1, .int .u64 Y2]] w fun e w' => e = .returned (.bool true) ∧ Kp w w' := by
  go_enter Try.func8, Try.ntmps8
  go_wp2
  refine Fq.wp_region_grow (by kernel_rfl) (by kernel_rfl) (fun ι _ G hG hall => ?_)
  have cc0 : ∀ n, (G n).cell? ⟨w.heap.size, 0, none⟩ = some (.int .u64 X1) := fun n => Fq.gkeep (hG n) (by simp [go_sem])
  have cc1 : ∀ n, (G n).cell? ⟨w.heap.size, 1, none⟩ = some (.int .u64 X2) := fun n => Fq.gkeep (hG n) (by simp [go_sem])
  have cc2 : ∀ n, (G n).cell? ⟨w.heap.size + 1, 0, none⟩ = some (.int .u64 Y1) := fun n => Fq.gkeep (hG n) (by simp [go_sem])
  have cc3 : ∀ n, (G n).cell? ⟨w.heap.size + 1, 1, none⟩ = some (.int .u64 Y2) := fun n => Fq.gkeep (hG n) (by simp [go_sem])
  repeat (go_big_quiet_step (first | (go_at_call_of 11 (Value.agg #[.int .u64 X1, .int .u64 X2]); exact (hin1 _).mono (fun e w' h => ⟨h.1, hall _ (Fq.gtrans (hG _) h.2)⟩)) | (go_at_call_of 11 (Value.agg #[.int .u64 Y1, .int .u64 Y2]); exact (hin2 _).mono (fun e w' h => ⟨h.1, hall _ (Fq.gtrans (hG _) h.2)⟩)) | (go_at_call 38; exact (hp _).mono (fun e w' h => ⟨h.1, hall _ (Fq.gtrans (hG _) h.2)⟩)) | (go_at_call 39; exact (hr _).mono (fun e w' h => ⟨h.1, hall _ (Fq.gtrans (hG _) h.2)⟩))))
  refine wpQuiet_nil ?_
  rintro _ ⟨nq, rfl⟩
  have gq : Kp _ (G nq) := hG nq
  clear cc0 cc1 cc2 cc3 hall hG
  have gq2 := Kp.trans (((Kp.refl w).alloc _).alloc _) gq
  go_wp2
  exact bodyPost_ret (v := .bool true) (by simp [results, Try.results8, go_sem]) rfl ⟨rfl, gq2⟩
theorem states_ (a b c d : Nat) (ha : a < 18446744073709551616) (hb : b < 18446744073709551616) (hc : c < 18446744073709551616) (hd : d < 18446744073709551616) (w : World) : Calls Try.prog 8 #[.agg #[.int .u64 ((a : Nat) : Int), .int .u64 ((b : Nat) : Int)], .agg #[.int .u64 ((c : Nat) : Int), .int .u64 ((d : Nat) : Int)]] w fun e w' => e = .returned (.bool true) ∧ Kp w w' := by
  obtain ⟨L1, H1, r1⟩ := Rd.ex a b ha hb
  obtain ⟨L2, H2, r2⟩ := Rd.ex c d hc hd
  exact statesA_ _ _ _ _ _ a b c d (in9_ a b) (in9_ c d) (ov9_ a b c d L1 H1 L2 H2 r1 r2) (rover9_ _ _ _ _ L1 H1 L2 H2 r1.vd r2.vd (rread9_ a b L1 H1 r1) (rread9_ c d L2 H2 r2)) w
end Go.Proofs.Ythajkngngdnidaa
