import Derived.Test.YtkjcnnjgaififaaDoorProg
import Derived.Test.YtkjcnnjgaififaaDoorKA
import Derived.Test.YtkjcnnjgaififaaDoorKA2
import Derived.Test.YtkjcnnjgaififaaDoorKA3
import Derived.Test.YtkjcnnjgaififaaDoorKA4
import Derived.Test.YtkjcnnjgaififaaDoorKXM
import Derived.Test.YtkjcnnjgaififaaDoorKXT
import Derived.Test.YtkjcnnjgaififaaDoorKA5
import Derived.Test.YtkjcnnjgaififaaDoorKAT
import Derived.Test.YtkjcnnjgaififaaDoorKLB
import Derived.Test.YtkjcnnjgaififaaDoorKLN
import Derived.Test.YtkjcnnjgaififaaDoorKPR
import Derived.Test.YtkjcnnjgaififaaDoorKSL
import Derived.Test.YtkjcnnjgaififaaDoorKSR
import Derived.Test.YtkjcnnjgaififaaDoorKNF
import Derived.Test.YtkjcnnjgaififaaDoorKXQ
import Derived.Test.YtkjcnnjgaififaaDoorKTO
import Derived.Test.YtkjcnnjgaififaaDoorKHB
import Derived.Test.YtkjcnnjgaififaaDoorKZE
import Derived.Test.YtkjcnnjgaififaaDoorKTZ
import Derived.Test.YtkjcnnjgaififaaDoorKBW
import Derived.Test.YtkjcnnjgaififaaDoorKNSm
import Derived.Test.YtkjcnnjgaififaaDoorKW4
import Derived.Test.YtkjcnnjgaififaaDoorKRW
import Derived.Test.YtkjcnnjgaififaaDoorKNA
import Derived.Test.YtkjcnnjgaififaaDoorKNS
import Derived.Test.YtkjcnnjgaififaaDoorKNM
import Derived.Test.YtkjcnnjgaififaaDoorKNPw
import Derived.Test.YtkjcnnjgaififaaDoorKXS
import Derived.Test.YtkjcnnjgaififaaDoorKLI
import Derived.Test.YtkjcnnjgaififaaDoorKNC
import Derived.WalkKit
import Derived.ProofKit
import Derived.RowKit3
import Derived.WalkSpells
import Derived.StillTactics
import Derived.Deep.QuietTactic
import Derived.BigQuiet
import Derived.Below
import Derived.Deep.OwnRows
import Derived.OwnWalk
namespace Go.Proofs.YtkjcnnjgaififaaDoor
open Go.RowKit
set_option maxRecDepth 20000 in
set_option maxHeartbeats 2000000 in
theorem known_ (w : World) (hT0 : Tab w) : Calls Tryd.prog 3 #[] w fun e w' => e = .returned (.bool true) ∧ Kp w w' := by
  have HK : Hid (Kp w w) := Kp.refl w
  have HT : Hid (Tab w) := hT0
  clear hT0
  go_enter Tryd.func3, Tryd.ntmps3
  obtain ⟨g1, hg1⟩ : ∃ g1, g1 = w.heap.size := ⟨_, rfl⟩
  obtain ⟨l1x0, hl1x0⟩ : ∃ l1x0, l1x0 = (w).alloc (.cells #[.int .u32 4294967295, .int .u32 4294967295, .int .u32 0] 25) := ⟨_, rfl⟩
  have kp1x0 : Kp w l1x0 := by rw [hl1x0]; exact (Kp.refl _).alloc _
  have ar1x0 : Arr l1x0 (some ⟨g1, 0, none⟩) [4294967295, 4294967295, 0] := by
    have h := (row3 w 4294967295 4294967295 0).all rfl
    rw [← hl1x0] at h
    rw [show g1 = w.heap.size from by exact hg1]
    exact h
  have hc := nword_ (some ⟨g1, 0, none⟩) 3 [4294967295, 4294967295, 0] l1x0 ar1x0 (wd3 4294967295 4294967295 0 (by decide) (by decide) (by decide)) (by simp) (by simp)
  rw [show val [4294967295, 4294967295, 0] = 18446744073709551615 from by decide, known_word] at hc
  have hc' : Calls Tryd.prog 9 #[.slice (some ⟨g1, 0, none⟩) 3 3] l1x0 fun e w' => e = .returned (.tuple #[.int .u64 18446744073709551615, .bool true]) ∧ w' = l1x0 := hc
  replace HK : Hid (Kp w l1x0) := HK.out.trans kp1x0
  clear hc
  go_wp2_with fail
  rw [← hl1x0, ← hg1]
  refine hc'.mono ?_
  rintro e u1 ⟨rfl, hu⟩
  obtain rfl := hu.symm
  clear hc' hl1x0 kp1x0 ar1x0 hg1
  have hc := lives_ l1x0
  go_wp2_with fail
  refine hc.mono ?_
  rintro e u2 ⟨rfl, hk⟩
  replace HK : Hid (Kp w u2) := HK.out.trans hk
  clear hc hk
  obtain ⟨g2, hg2⟩ : ∃ g2, g2 = u2.heap.size := ⟨_, rfl⟩
  obtain ⟨l2x0, hl2x0⟩ : ∃ l2x0, l2x0 = (u2).alloc (.cells #[.int .u32 10] 25) := ⟨_, rfl⟩
  have kp2x0 : Kp u2 l2x0 := by rw [hl2x0]; exact (Kp.refl _).alloc _
  have ar2x0 : Arr l2x0 (some ⟨g2, 0, none⟩) [10] := by
    have h := (row1 u2 10).all rfl
    rw [← hl2x0] at h
    rw [show g2 = u2.heap.size from by exact hg2]
    exact h
  have hc := npow_ (some ⟨g2, 0, none⟩) 1 [10] l2x0 14 ar2x0 (wd1 10 (by decide)) (by simp) (by simp)
  rw [show val [10] = 10 from by decide, known_pow] at hc
  have hc' : Calls Tryd.prog 11 #[.slice (some ⟨g2, 0, none⟩) 1 1, .int .i64 14] l2x0 fun e w' => ∃ v, e = .returned (.tuple #[v, .int .i64 0]) ∧ Own w' l2x0.heap.size v [276447232, 23283] ∧ Kp l2x0 w' := hc
  replace HK : Hid (Kp w l2x0) := HK.out.trans kp2x0
  clear hc
  go_wp2_with fail
  rw [← hl2x0, ← hg2]
  refine hc'.mono ?_
  rintro e a2 ⟨v2, rfl, hO, hk⟩
  replace HK : Hid (Kp w a2) := HK.out.trans hk
  obtain ⟨p2, c2, rfl, hA, _⟩ := hO.arr
  have HA2 : Hid (Arr a2 p2 [276447232, 23283]) := hA
  clear hc' hO hk hA hl2x0 kp2x0 ar2x0 hg2
  obtain ⟨g3, hg3⟩ : ∃ g3, g3 = a2.heap.size := ⟨_, rfl⟩
  obtain ⟨l3x0, hl3x0⟩ : ∃ l3x0, l3x0 = (a2).alloc (.cells #[.int .u32 276447232, .int .u32 23283] 25) := ⟨_, rfl⟩
  have kp3x0 : Kp a2 l3x0 := by rw [hl3x0]; exact (Kp.refl _).alloc _
  have ar3x0 : Arr l3x0 (some ⟨g3, 0, none⟩) [276447232, 23283] := by
    have h := (row2 a2 276447232 23283).all rfl
    rw [← hl3x0] at h
    rw [show g3 = a2.heap.size from by exact hg3]
    exact h
  have hc := same_ p2 (some ⟨g3, 0, none⟩) c2 2 [276447232, 23283] [276447232, 23283] l3x0 (HA2.out.grown kp3x0) ar3x0 (by simp)
  rw [decide_eq_true rfl] at hc
  have hc' : Calls Tryd.prog 12 #[.slice p2 2 c2, .slice (some ⟨g3, 0, none⟩) 2 2] l3x0 fun e w' => e = .returned (.bool true) ∧ Kp l3x0 w' := hc
  replace HK : Hid (Kp w l3x0) := HK.out.trans kp3x0
  clear hc
  go_wp2_with fail
  rw [← hl3x0, ← hg3]
  refine hc'.mono ?_
  rintro e b3 ⟨rfl, hk⟩
  replace HK : Hid (Kp w b3) := HK.out.trans hk
  clear hc' hk HA2 hl3x0 kp3x0 ar3x0 hg3
  obtain ⟨LL, hp2, hLl, hLg, _⟩ := pow2_at 524287 16383 31 (by decide) (by decide) (by decide)
  have hp2' : powN 2 524287 = (LL, 0) := hp2
  have hLg' : LL.getD 16383 0 = 2147483648 := hLg
  have HL : Hid (LL.length = 16384 ∧ LL.getD 16383 0 = 2147483648) := ⟨hLl, hLg'⟩
  clear hp2 hLl hLg hLg'
  obtain ⟨g4, hg4⟩ : ∃ g4, g4 = b3.heap.size := ⟨_, rfl⟩
  obtain ⟨l4x0, hl4x0⟩ : ∃ l4x0, l4x0 = (b3).alloc (.cells #[.int .u32 2] 25) := ⟨_, rfl⟩
  have kp4x0 : Kp b3 l4x0 := by rw [hl4x0]; exact (Kp.refl _).alloc _
  have ar4x0 : Arr l4x0 (some ⟨g4, 0, none⟩) [2] := by
    have h := (row1 b3 2).all rfl
    rw [← hl4x0] at h
    rw [show g4 = b3.heap.size from by exact hg4]
    exact h
  have hc := npow_ (some ⟨g4, 0, none⟩) 1 [2] l4x0 524287 ar4x0 (wd1 2 (by decide)) (by simp) (by simp)
  rw [show val [2] = 2 from by decide, hp2'] at hc
  have hc' : Calls Tryd.prog 11 #[.slice (some ⟨g4, 0, none⟩) 1 1, .int .i64 524287] l4x0 fun e w' => ∃ v, e = .returned (.tuple #[v, .int .i64 0]) ∧ Own w' l4x0.heap.size v LL ∧ Kp l4x0 w' := hc
  replace HK : Hid (Kp w l4x0) := HK.out.trans kp4x0
  clear hc
  go_wp2_with fail
  rw [← hl4x0, ← hg4]
  refine hc'.mono ?_
  rintro e a4 ⟨v4, rfl, hO, hk⟩
  replace HK : Hid (Kp w a4) := HK.out.trans hk
  obtain ⟨p4, c4, rfl, hA, _⟩ := hO.arr
  have HA4 : Hid (Arr a4 p4 LL) := hA
  clear hc' hO hk hA hl4x0 kp4x0 ar4x0 hg4
  have hAt := HA4.out.at (k := 16383) (by rw [HL.out.1]; decide)
  obtain ⟨bq, oq, rfl, hcq⟩ := hAt
  have e9 := hcq 16383 (by rw [HL.out.1]; decide)
  rw [HL.out.2] at e9
  rw [HL.out.1]
  clear hcq HA4 hp2'
  have hb2 : powN 2 524288 = ([], 2) := pow_big 2 524288 16384 (by decide) rfl (by decide)
  have hb3 : powN 3 9223372036854775807 = ([], 2) := pow_big 3 9223372036854775807 16384 (by decide) rfl (by decide)
  have HB : Hid (powN 2 524288 = ([], 2) ∧ powN 3 9223372036854775807 = ([], 2)) := ⟨hb2, hb3⟩
  clear hb2 hb3
  obtain ⟨g5, hg5⟩ : ∃ g5, g5 = a4.heap.size := ⟨_, rfl⟩
  obtain ⟨l5x0, hl5x0⟩ : ∃ l5x0, l5x0 = (a4).alloc (.cells #[.int .u32 2] 25) := ⟨_, rfl⟩
  have kp5x0 : Kp a4 l5x0 := by rw [hl5x0]; exact (Kp.refl _).alloc _
  have ar5x0 : Arr l5x0 (some ⟨g5, 0, none⟩) [2] := by
    have h := (row1 a4 2).all rfl
    rw [← hl5x0] at h
    rw [show g5 = a4.heap.size from by exact hg5]
    exact h
  have hc := npow_ (some ⟨g5, 0, none⟩) 1 [2] l5x0 524288 ar5x0 (wd1 2 (by decide)) (by simp) (by simp)
  rw [show val [2] = 2 from by decide, HB.out.1] at hc
  have hc' : Calls Tryd.prog 11 #[.slice (some ⟨g5, 0, none⟩) 1 1, .int .i64 524288] l5x0 fun e w' => ∃ v, e = .returned (.tuple #[v, .int .i64 2]) ∧ Own w' l5x0.heap.size v [] ∧ Kp l5x0 w' := hc
  replace HK : Hid (Kp w l5x0) := HK.out.trans kp5x0
  clear hc
  go_wp2_with fail
  rw [← hl5x0, ← hg5]
  refine hc'.mono ?_
  rintro e a5 ⟨v5, rfl, hO, hk⟩
  replace HK : Hid (Kp w a5) := HK.out.trans hk
  obtain ⟨p5, c5, rfl, hA, _⟩ := hO.arr
  have HA5 : Hid (Arr a5 p5 []) := hA
  clear hc' hO hk hA hl5x0 kp5x0 ar5x0 hg5
  clear HA5 e9
  obtain ⟨g6, hg6⟩ : ∃ g6, g6 = a5.heap.size := ⟨_, rfl⟩
  obtain ⟨l6x0, hl6x0⟩ : ∃ l6x0, l6x0 = (a5).alloc (.cells #[.int .u32 3] 25) := ⟨_, rfl⟩
  have kp6x0 : Kp a5 l6x0 := by rw [hl6x0]; exact (Kp.refl _).alloc _
  have ar6x0 : Arr l6x0 (some ⟨g6, 0, none⟩) [3] := by
    have h := (row1 a5 3).all rfl
    rw [← hl6x0] at h
    rw [show g6 = a5.heap.size from by exact hg6]
    exact h
  have hc := npow_ (some ⟨g6, 0, none⟩) 1 [3] l6x0 9223372036854775807 ar6x0 (wd1 3 (by decide)) (by simp) (by simp)
  rw [show val [3] = 3 from by decide, HB.out.2] at hc
  have hc' : Calls Tryd.prog 11 #[.slice (some ⟨g6, 0, none⟩) 1 1, .int .i64 9223372036854775807] l6x0 fun e w' => ∃ v, e = .returned (.tuple #[v, .int .i64 2]) ∧ Own w' l6x0.heap.size v [] ∧ Kp l6x0 w' := hc
  replace HK : Hid (Kp w l6x0) := HK.out.trans kp6x0
  clear hc
  go_wp2_with fail
  rw [← hl6x0, ← hg6]
  refine hc'.mono ?_
  rintro e a6 ⟨v6, rfl, hO, hk⟩
  replace HK : Hid (Kp w a6) := HK.out.trans hk
  obtain ⟨p6, c6, rfl, hA, _⟩ := hO.arr
  have HA6 : Hid (Arr a6 p6 []) := hA
  clear hc' hO hk hA hl6x0 kp6x0 ar6x0 hg6
  clear HA6
  obtain ⟨g7, hg7⟩ : ∃ g7, g7 = a6.heap.size := ⟨_, rfl⟩
  obtain ⟨l7x0, hl7x0⟩ : ∃ l7x0, l7x0 = (a6).alloc (.cells #[.int .u32 3] 25) := ⟨_, rfl⟩
  have kp7x0 : Kp a6 l7x0 := by rw [hl7x0]; exact (Kp.refl _).alloc _
  have ar7x0 : Arr l7x0 (some ⟨g7, 0, none⟩) [3] := by
    have h := (row1 a6 3).all rfl
    rw [← hl7x0] at h
    rw [show g7 = a6.heap.size from by exact hg7]
    exact h
  have hc := nshl_ (some ⟨g7, 0, none⟩) 1 [3] l7x0 31 ar7x0 (wd1 3 (by decide)) (by simp) (by simp)
  rw [show val [3] = 3 from by decide, known_shl] at hc
  have hc' : Calls Tryd.prog 13 #[.slice (some ⟨g7, 0, none⟩) 1 1, .int .i64 31] l7x0 fun e w' => ∃ v, e = .returned (.tuple #[v, .int .i64 0]) ∧ Own w' l7x0.heap.size v [2147483648, 1] ∧ Kp l7x0 w' := hc
  replace HK : Hid (Kp w l7x0) := HK.out.trans kp7x0
  clear hc
  go_wp2_with fail
  rw [← hl7x0, ← hg7]
  refine hc'.mono ?_
  rintro e a7 ⟨v7, rfl, hO, hk⟩
  replace HK : Hid (Kp w a7) := HK.out.trans hk
  obtain ⟨p7, c7, rfl, hA, _⟩ := hO.arr
  have HA7 : Hid (Arr a7 p7 [2147483648, 1]) := hA
  clear hc' hO hk hA hl7x0 kp7x0 ar7x0 hg7
  obtain ⟨g8, hg8⟩ : ∃ g8, g8 = a7.heap.size := ⟨_, rfl⟩
  obtain ⟨l8x0, hl8x0⟩ : ∃ l8x0, l8x0 = (a7).alloc (.cells #[.int .u32 2147483648, .int .u32 1] 25) := ⟨_, rfl⟩
  have kp8x0 : Kp a7 l8x0 := by rw [hl8x0]; exact (Kp.refl _).alloc _
  have ar8x0 : Arr l8x0 (some ⟨g8, 0, none⟩) [2147483648, 1] := by
    have h := (row2 a7 2147483648 1).all rfl
    rw [← hl8x0] at h
    rw [show g8 = a7.heap.size from by exact hg8]
    exact h
  have hc := same_ p7 (some ⟨g8, 0, none⟩) c7 2 [2147483648, 1] [2147483648, 1] l8x0 (HA7.out.grown kp8x0) ar8x0 (by simp)
  rw [decide_eq_true rfl] at hc
  have hc' : Calls Tryd.prog 12 #[.slice p7 2 c7, .slice (some ⟨g8, 0, none⟩) 2 2] l8x0 fun e w' => e = .returned (.bool true) ∧ Kp l8x0 w' := hc
  replace HK : Hid (Kp w l8x0) := HK.out.trans kp8x0
  clear hc
  go_wp2_with fail
  rw [← hl8x0, ← hg8]
  refine hc'.mono ?_
  rintro e b8 ⟨rfl, hk⟩
  replace HK : Hid (Kp w b8) := HK.out.trans hk
  clear hc' hk HA7 hl8x0 kp8x0 ar8x0 hg8
  obtain ⟨g9, hg9⟩ : ∃ g9, g9 = b8.heap.size := ⟨_, rfl⟩
  obtain ⟨l9x0, hl9x0⟩ : ∃ l9x0, l9x0 = (b8).alloc (.cells #[.int .u32 1, .int .u32 1] 25) := ⟨_, rfl⟩
  have kp9x0 : Kp b8 l9x0 := by rw [hl9x0]; exact (Kp.refl _).alloc _
  have ar9x0 : Arr l9x0 (some ⟨g9, 0, none⟩) [1, 1] := by
    have h := (row2 b8 1 1).all rfl
    rw [← hl9x0] at h
    rw [show g9 = b8.heap.size from by exact hg9]
    exact h
  have hc := nshr_ (some ⟨g9, 0, none⟩) 2 [1, 1] l9x0 1 (by decide) (HT.out.grown (HK.out.trans kp9x0)) ar9x0 (wd2 1 1 (by decide) (by decide)) (by simp) (by simp)
  rw [show val [1, 1] = 4294967297 from by decide, known_shr] at hc
  have hc' : Calls Tryd.prog 14 #[.slice (some ⟨g9, 0, none⟩) 2 2, .int .i64 1] l9x0 fun e w' => ∃ v, e = .returned (.tuple #[v, .bool true, .int .i64 0]) ∧ Own w' l9x0.heap.size v [2147483648] ∧ Kp l9x0 w' := hc
  replace HK : Hid (Kp w l9x0) := HK.out.trans kp9x0
  clear hc
  go_wp2_with fail
  rw [← hl9x0, ← hg9]
  refine hc'.mono ?_
  rintro e a9 ⟨v9, rfl, hO, hk⟩
  replace HK : Hid (Kp w a9) := HK.out.trans hk
  obtain ⟨p9, c9, rfl, hA, _⟩ := hO.arr
  have HA9 : Hid (Arr a9 p9 [2147483648]) := hA
  clear hc' hO hk hA hl9x0 kp9x0 ar9x0 hg9
  obtain ⟨g10, hg10⟩ : ∃ g10, g10 = a9.heap.size := ⟨_, rfl⟩
  obtain ⟨l10x0, hl10x0⟩ : ∃ l10x0, l10x0 = (a9).alloc (.cells #[.int .u32 2147483648] 25) := ⟨_, rfl⟩
  have kp10x0 : Kp a9 l10x0 := by rw [hl10x0]; exact (Kp.refl _).alloc _
  have ar10x0 : Arr l10x0 (some ⟨g10, 0, none⟩) [2147483648] := by
    have h := (row1 a9 2147483648).all rfl
    rw [← hl10x0] at h
    rw [show g10 = a9.heap.size from by exact hg10]
    exact h
  have hc := same_ p9 (some ⟨g10, 0, none⟩) c9 1 [2147483648] [2147483648] l10x0 (HA9.out.grown kp10x0) ar10x0 (by simp)
  rw [decide_eq_true rfl] at hc
  have hc' : Calls Tryd.prog 12 #[.slice p9 1 c9, .slice (some ⟨g10, 0, none⟩) 1 1] l10x0 fun e w' => e = .returned (.bool true) ∧ Kp l10x0 w' := hc
  replace HK : Hid (Kp w l10x0) := HK.out.trans kp10x0
  clear hc
  go_wp2_with fail
  rw [← hl10x0, ← hg10]
  refine hc'.mono ?_
  rintro e b10 ⟨rfl, hk⟩
  replace HK : Hid (Kp w b10) := HK.out.trans hk
  clear hc' hk HA9 hl10x0 kp10x0 ar10x0 hg10
  obtain ⟨g11, hg11⟩ : ∃ g11, g11 = b10.heap.size := ⟨_, rfl⟩
  obtain ⟨l11x0, hl11x0⟩ : ∃ l11x0, l11x0 = (b10).alloc (.cells #[.int .u32 0, .int .u32 1] 25) := ⟨_, rfl⟩
  have kp11x0 : Kp b10 l11x0 := by rw [hl11x0]; exact (Kp.refl _).alloc _
  have ar11x0 : Arr l11x0 (some ⟨g11, 0, none⟩) [0, 1] := by
    have h := (row2 b10 0 1).all rfl
    rw [← hl11x0] at h
    rw [show g11 = b10.heap.size from by exact hg11]
    exact h
  obtain ⟨l11x1, hl11x1⟩ : ∃ l11x1, l11x1 = (l11x0).alloc (.cells #[.int .u32 4294967295] 25) := ⟨_, rfl⟩
  have kp11x1 : Kp l11x0 l11x1 := by rw [hl11x1]; exact (Kp.refl _).alloc _
  have ar11x1 : Arr l11x1 (some ⟨g11 + 1, 0, none⟩) [4294967295] := by
    have h := (row1 l11x0 4294967295).all rfl
    rw [← hl11x1] at h
    rw [show g11 + 1 = l11x0.heap.size from by rw [hg11, hl11x0]; simp]
    exact h
  have hc := ncmp_ (some ⟨g11, 0, none⟩) (some ⟨g11 + 1, 0, none⟩) 2 1 [0, 1] [4294967295] l11x1 (ar11x0.grown kp11x1) ar11x1 (wd2 0 1 (by decide) (by decide)) (wd1 4294967295 (by decide)) (by simp) (by simp) (by simp) (by simp)
  rw [show val [0, 1] = 4294967296 from by decide, val_m, known_cmp] at hc
  have hc' : Calls Tryd.prog 15 #[.slice (some ⟨g11, 0, none⟩) 2 2, .slice (some ⟨g11 + 1, 0, none⟩) 1 1] l11x1 fun e w' => e = .returned (.int .i64 1) ∧ Kp l11x1 w' := hc
  replace HK : Hid (Kp w l11x1) := HK.out.trans (kp11x0.trans kp11x1)
  clear hc
  go_wp2_with fail
  rw [← hl11x0, ← hl11x1, ← hg11]
  refine hc'.mono ?_
  rintro e b11 ⟨rfl, hk⟩
  replace HK : Hid (Kp w b11) := HK.out.trans hk
  clear hc' hk hl11x0 kp11x0 hl11x1 kp11x1 ar11x0 ar11x1 hg11
  obtain ⟨g12, hg12⟩ : ∃ g12, g12 = b11.heap.size := ⟨_, rfl⟩
  obtain ⟨l12x0, hl12x0⟩ : ∃ l12x0, l12x0 = (b11).alloc (.cells #[.int .u32 0, .int .u32 1] 25) := ⟨_, rfl⟩
  have kp12x0 : Kp b11 l12x0 := by rw [hl12x0]; exact (Kp.refl _).alloc _
  have ar12x0 : Arr l12x0 (some ⟨g12, 0, none⟩) [0, 1] := by
    have h := (row2 b11 0 1).all rfl
    rw [← hl12x0] at h
    rw [show g12 = b11.heap.size from by exact hg12]
    exact h
  have hc := nlen_ (some ⟨g12, 0, none⟩) 2 [0, 1] l12x0 ar12x0 (wd2 0 1 (by decide) (by decide)) (by simp) (by simp)
  rw [show val [0, 1] = 4294967296 from by decide, known_len] at hc
  have hc' : Calls Tryd.prog 16 #[.slice (some ⟨g12, 0, none⟩) 2 2] l12x0 fun e w' => e = .returned (.int .i64 33) ∧ w' = l12x0 := hc
  replace HK : Hid (Kp w l12x0) := HK.out.trans kp12x0
  clear hc
  go_wp2_with fail
  rw [← hl12x0, ← hg12]
  refine hc'.mono ?_
  rintro e q12 ⟨rfl, hu⟩
  obtain rfl := hu.symm
  clear hc' hl12x0 kp12x0 ar12x0 hg12
  obtain ⟨g13, hg13⟩ : ∃ g13, g13 = l12x0.heap.size := ⟨_, rfl⟩
  obtain ⟨l13x0, hl13x0⟩ : ∃ l13x0, l13x0 = (l12x0).alloc (.cells #[.int .u32 0, .int .u32 8] 25) := ⟨_, rfl⟩
  have kp13x0 : Kp l12x0 l13x0 := by rw [hl13x0]; exact (Kp.refl _).alloc _
  have ar13x0 : Arr l13x0 (some ⟨g13, 0, none⟩) [0, 8] := by
    have h := (row2 l12x0 0 8).all rfl
    rw [← hl13x0] at h
    rw [show g13 = l12x0.heap.size from by exact hg13]
    exact h
  have hc := nzeros_ (some ⟨g13, 0, none⟩) 2 [0, 8] l13x0 ar13x0 (wd2 0 8 (by decide) (by decide)) (by simp) (HT.out.grown (HK.out.trans kp13x0))
  rw [show val [0, 8] = 34359738368 from by decide, known_ctz] at hc
  have hc' : Calls Tryd.prog 17 #[.slice (some ⟨g13, 0, none⟩) 2 2] l13x0 fun e w' => e = .returned (.int .i64 35) ∧ w' = l13x0 := hc
  replace HK : Hid (Kp w l13x0) := HK.out.trans kp13x0
  clear hc
  go_wp2_with fail
  rw [← hl13x0, ← hg13]
  refine hc'.mono ?_
  rintro e q13 ⟨rfl, hu⟩
  obtain rfl := hu.symm
  clear hc' hl13x0 kp13x0 ar13x0 hg13
  go_wp2
  exact bodyPost_ret (v := .bool true) (by simp [results, Tryd.results3, go_sem]) rfl ⟨rfl, HK.out⟩
end Go.Proofs.YtkjcnnjgaififaaDoor
