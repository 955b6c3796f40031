import Derived.Test.YthajkngngdnidaaProg
import Derived.Test.YthajkngngdnidaaKXA0
import Derived.Test.YthajkngngdnidaaKQM
import Derived.Test.YthajkngngdnidaaKQA
import Derived.Test.YthajkngngdnidaaKXQU
import Derived.Test.YthajkngngdnidaaKEM
import Derived.Test.YthajkngngdnidaaKEN
import Derived.Test.YthajkngngdnidaaKEA
import Derived.Test.YthajkngngdnidaaKEB
import Derived.Test.YthajkngngdnidaaKEH
import Derived.Test.YthajkngngdnidaaKEK
import Derived.Test.YthajkngngdnidaaKEO
import Derived.Test.YthajkngngdnidaaKER
import Derived.Test.YthajkngngdnidaaKES
import Derived.Test.YthajkngngdnidaaKNRv
import Derived.Test.YthajkngngdnidaaKNRm
import Derived.Test.YthajkngngdnidaaKNRa
import Derived.Test.YthajkngngdnidaaKNRb
import Derived.Test.YthajkngngdnidaaKNRc
import Derived.Test.YthajkngngdnidaaKNRd
import Derived.Test.YthajkngngdnidaaKNRe
import Derived.Test.YthajkngngdnidaaKNRf
import Derived.Test.YthajkngngdnidaaKNRg
import Derived.Test.YthajkngngdnidaaKNRh
import Derived.Test.YthajkngngdnidaaKNRi
import Derived.WalkKit
import Derived.ProofKit
import Derived.RowKit3
import Derived.WalkSpells
import Derived.StillTactics
import Derived.Deep.QuietTactic
import Derived.BigQuiet
import Derived.Below
import Derived.Deep.OwnRows
import Derived.OwnWalk
import Derived.Laws.BitsAllLaws
import Derived.Laws.Slices
import Derived.Laws.Bits64b
import Derived.Laws.FloatArith
import Derived.Deep.RegionHeld3
import Derived.Deep.CutRange
import Derived.Deep.DeepCutAuto
namespace Go.Proofs.Ythajkngngdnidaa
open Go.RowKit
set_option maxRecDepth 20000 in
set_option maxHeartbeats 2000000 in
theorem names_ (w : World) : Calls Try.prog 3 #[] w fun e w' => e = .returned (.bool true) ∧ Kp w w' := by
  have HA : Hid (∀ k : Nat, k < 16 → (w.alloc (.cells #[.int .i64 0, .int .i64 1, .int .i64 2, .int .i64 3, .int .i64 4, .int .i64 5, .int .i64 6, .int .i64 7, .int .i64 8, .int .i64 9, .int .i64 10, .int .i64 11, .int .i64 12, .int .i64 13, .int .i64 14, .int .i64 15] 3)).cell? ⟨w.heap.size, k, none⟩ = some (.int .i64 (k : Int))) := by
    intro k hk
    rcases (by omega : k = 0 ∨ k = 1 ∨ k = 2 ∨ k = 3 ∨ k = 4 ∨ k = 5 ∨ k = 6 ∨ k = 7 ∨ k = 8 ∨ k = 9 ∨ k = 10 ∨ k = 11 ∨ k = 12 ∨ k = 13 ∨ k = 14 ∨ k = 15) with rfl | rfl | rfl | rfl | rfl | rfl | rfl | rfl | rfl | rfl | rfl | rfl | rfl | rfl | rfl | rfl <;> simp [go_sem]
  have k0 : Kp w (w.alloc (.cells #[.int .i64 0, .int .i64 1, .int .i64 2, .int .i64 3, .int .i64 4, .int .i64 5, .int .i64 6, .int .i64 7, .int .i64 8, .int .i64 9, .int .i64 10, .int .i64 11, .int .i64 12, .int .i64 13, .int .i64 14, .int .i64 15] 3)) := (Kp.refl w).alloc _
  go_enter Try.func3, Try.ntmps3
  go_wp2
  generalize hW : (w.alloc (.cells #[.int .i64 0, .int .i64 1, .int .i64 2, .int .i64 3, .int .i64 4, .int .i64 5, .int .i64 6, .int .i64 7, .int .i64 8, .int .i64 9, .int .i64 10, .int .i64 11, .int .i64 12, .int .i64 13, .int .i64 14, .int .i64 15] 3)) = W at HA k0 ⊢
  clear hW
  go_loop [2] (fun i => ∃ k : Nat, i = .int .i64 k ∧ k ≤ 16) (fun i => 16 - (intOf i).toNat)
  case atStart => exact ⟨0, rfl, Nat.zero_le _⟩
  case round =>
    obtain ⟨k, rfl, hk⟩ := hrel
    by_cases ck : k < 16
    · have e1 := HA.out k ck
      clear HA
      go_wp2
      exact ⟨⟨k + 1, by go_num, by omega⟩, by simp [intOf]; omega⟩
    · clear HA
      go_wp2_with (first | (go_at_call 9; refine (awake9_ _).mono ?_; rintro e w1 ⟨rfl, g1⟩))
      exact bodyPost_ret (v := .bool true) (by simp [results, Try.results3, go_sem]) rfl ⟨rfl, (Kp.trans k0 g1)⟩
end Go.Proofs.Ythajkngngdnidaa
