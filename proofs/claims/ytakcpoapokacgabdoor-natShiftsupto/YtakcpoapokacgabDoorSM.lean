import Derived.Test.YtakcpoapokacgabDoorProg
import Derived.Test.YtakcpoapokacgabDoorA
import Derived.Test.YtakcpoapokacgabDoorMN
import Derived.Test.YtakcpoapokacgabDoorT1
import Derived.Test.YtakcpoapokacgabDoorT2
import Derived.WalkKit
import Derived.ProofKit
import Derived.RowKit3
import Derived.WalkSpells
import Derived.StillTactics
import Derived.Deep.QuietTactic
import Derived.BigQuiet
import Derived.Below
import Derived.Deep.OwnRows
namespace Go.Proofs.YtakcpoapokacgabDoor
open Go.RowKit
set_option maxRecDepth 20000 in
set_option maxHeartbeats 400000 in
theorem add32_ (x y c : Int) (hx : 0 ≤ x ∧ x < 4294967296) (hy : 0 ≤ y ∧ y < 4294967296) (hc : 0 ≤ c ∧ c < 4294967296) (w : World) :
    Calls Tryd.prog 89 #[.int .u32 x, .int .u32 y, .int .u32 c] w fun e w' => e = .returned (.tuple #[.int .u32 ((x + y + c) % 4294967296), .int .u32 ((x + y + c) / 4294967296)]) ∧ w' = w := by
  have f1 : IntKind.u64.wrap x = x := by rw [IntKind.wrap_u64]; omega
  have f2 : IntKind.u64.wrap y = y := by rw [IntKind.wrap_u64]; omega
  have f3 : IntKind.u64.wrap c = c := by rw [IntKind.wrap_u64]; omega
  have f4 : IntKind.u64.wrap (x + y) = x + y := by rw [IntKind.wrap_u64]; omega
  have f5 : IntKind.u64.wrap (x + y + c) = x + y + c := by rw [IntKind.wrap_u64]; omega
  have f6 : IntKind.u32.wrap (x + y + c) = (x + y + c) % 4294967296 := by rw [IntKind.wrap_u32]
  have f7 : IntKind.u32.wrap ((x + y + c) / 4294967296) = (x + y + c) / 4294967296 := by rw [IntKind.wrap_u32]; omega
  clear hx hy hc
  go_enter Tryd.func89, Tryd.ntmps89
  go_wp2
  exact bodyPost_ret (v := .tuple #[.int .u32 ((x + y + c) % 4294967296), .int .u32 ((x + y + c) / 4294967296)]) (by simp [results, Tryd.results89, go_sem] <;> simp only [*]) rfl ⟨rfl, rfl⟩
set_option maxRecDepth 20000 in
set_option maxHeartbeats 400000 in
theorem tooLong_ (p : Option Addr) (m c : Nat) (w : World) : Calls Tryd.prog 56 #[.slice p m c] w fun e w' => e = .returned (.bool (decide (16384 < m))) ∧ w' = w := by
  go_enter Tryd.func56, Tryd.ntmps56
  go_wp2
  have h : decide ((16384 : Int) < (m : Int)) = decide (16384 < m) := by by_cases d : 16384 < m <;> simp [d] <;> omega
  exact bodyPost_ret (v := .bool (decide (16384 < m))) (by simp [results, Tryd.results56, go_sem] <;> omega) rfl ⟨rfl, rfl⟩
set_option maxRecDepth 20000 in
set_option maxHeartbeats 400000 in
theorem unlessLong_ (p : Option Addr) (m c : Nat) (w : World) : Calls Tryd.prog 83 #[.slice p m c] w fun e w' => e = .returned (if 16384 < m then .tuple #[.slice none 0 0, .int .i64 2] else .tuple #[.slice p m c, .int .i64 0]) ∧ w' = w := by
  have h := tooLong_ p m c
  by_cases d : 16384 < m
  · rw [decide_eq_true d] at h
    rw [if_pos d]
    clear d
    go_enter Tryd.func83, Tryd.ntmps83
    go_wp2_with (first | (go_at_call 56; refine (h _).mono ?_; rintro e w' ⟨rfl, rfl⟩))
    exact bodyPost_ret (v := .tuple #[.slice none 0 0, .int .i64 2]) (by simp [results, Tryd.results83, go_sem] <;> simp only [*]) rfl ⟨rfl, rfl⟩
  · rw [decide_eq_false d] at h
    rw [if_neg d]
    clear d
    go_enter Tryd.func83, Tryd.ntmps83
    go_wp2_with (first | (go_at_call 56; refine (h _).mono ?_; rintro e w' ⟨rfl, rfl⟩))
    exact bodyPost_ret (v := .tuple #[.slice p m c, .int .i64 0]) (by simp [results, Tryd.results83, go_sem] <;> simp only [*]) rfl ⟨rfl, rfl⟩
set_option maxRecDepth 20000 in
set_option maxHeartbeats 400000 in
theorem long_ (p : Option Addr) (c : Nat) (xs : List Int) (w : World) (hx : Arr w p xs) (lx : xs.length ≤ 1099511627776) : Calls Tryd.prog 40 #[.slice p xs.length c] w fun e w' => e = .returned (.bool (decide (16384 < tl xs))) ∧ w' = w := by
  have h := words_ p c xs w hx lx
  obtain ⟨N, hN⟩ : ∃ N, N = xs.length := ⟨_, rfl⟩
  obtain ⟨T, hT⟩ : ∃ T, T = tl xs := ⟨_, rfl⟩
  rw [← hN, ← hT] at h
  rw [← hN, ← hT]
  clear hN hT hx lx
  go_enter Tryd.func40, Tryd.ntmps40
  go_wp2_with (first | (go_at_call 38; refine (h).mono ?_; rintro e w' ⟨rfl, rfl⟩))
  exact bodyPost_ret (v := .bool (decide (16384 < T))) (by simp [results, Tryd.results40, go_sem] <;> omega) rfl ⟨rfl, rfl⟩
set_option maxRecDepth 20000 in
set_option maxHeartbeats 400000 in
theorem fit_ (p : Option Addr) (c : Nat) (xs : List Int) (w : World) (hx : Arr w p xs) (lx : xs.length ≤ 1099511627776) : Calls Tryd.prog 70 #[.slice p xs.length c] w fun e w' => e = .returned (if 16384 < tl xs then .tuple #[.slice none 0 0, .int .i64 2] else .tuple #[.slice p xs.length c, .int .i64 0]) ∧ w' = w := by
  have h := long_ p c xs w hx lx
  obtain ⟨N, hN⟩ : ∃ N, N = xs.length := ⟨_, rfl⟩
  rw [← hN] at h ⊢
  by_cases d : 16384 < tl xs
  · rw [decide_eq_true d] at h
    rw [if_pos d]
    clear d hN hx lx
    go_enter Tryd.func70, Tryd.ntmps70
    go_wp2_with (first | (go_at_call 40; refine (h).mono ?_; rintro e w' ⟨rfl, rfl⟩))
    exact bodyPost_ret (v := .tuple #[.slice none 0 0, .int .i64 2]) (by simp [results, Tryd.results70, go_sem] <;> simp only [*]) rfl ⟨rfl, rfl⟩
  · rw [decide_eq_false d] at h
    rw [if_neg d]
    clear d hN hx lx
    go_enter Tryd.func70, Tryd.ntmps70
    go_wp2_with (first | (go_at_call 40; refine (h).mono ?_; rintro e w' ⟨rfl, rfl⟩))
    exact bodyPost_ret (v := .tuple #[.slice p N c, .int .i64 0]) (by simp [results, Tryd.results70, go_sem] <;> simp only [*]) rfl ⟨rfl, rfl⟩
end Go.Proofs.YtakcpoapokacgabDoor
