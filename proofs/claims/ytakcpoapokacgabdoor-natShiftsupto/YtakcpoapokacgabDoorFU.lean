import Derived.Test.YtakcpoapokacgabDoorProg
import Derived.Test.YtakcpoapokacgabDoorA
import Derived.Test.YtakcpoapokacgabDoorA2
import Derived.Test.YtakcpoapokacgabDoorA5
import Derived.Test.YtakcpoapokacgabDoorMN
import Derived.Test.YtakcpoapokacgabDoorMV
import Derived.WalkKit
import Derived.ProofKit
import Derived.RowKit3
import Derived.WalkSpells
import Derived.StillTactics
import Derived.Deep.QuietTactic
import Derived.BigQuiet
import Derived.Below
import Derived.Deep.OwnRows
namespace Go.Proofs.YtakcpoapokacgabDoor
open Go.RowKit
set_option maxRecDepth 20000 in
set_option maxHeartbeats 1000000 in
theorem full_ (p : Option Addr) (c N : Nat) (m : Int) (w : World) (hx : Arr w p (List.replicate N m)) (lx : N ≤ 1099511627776) :
    Calls Tryd.prog 37 #[.slice p N c, .int .u32 m, .int .i64 (N : Int)] w fun e w' => e = .returned (.bool true) ∧ w' = w := by
  have HX : Hid (Arr w p (List.replicate N m)) := hx
  clear hx
  go_enter Tryd.func37, Tryd.ntmps37
  go_wp2
  go_loop [7] (fun i => ∃ k : Nat, k ≤ N ∧ i = .int .i64 k) (fun i => N - (intOf i).toNat)
  case atStart => exact ⟨0, Nat.zero_le _, rfl⟩
  case round =>
    obtain ⟨k, hk, rfl⟩ := hrel
    by_cases ck : k < N
    · obtain ⟨b, off, rfl, hc⟩ := HX.out.at (k := k) (by simpa using ck)
      have e1 := hc k (by simpa using ck)
      rw [rep_getD, if_pos ck] at e1
      have i1 : (k : Int) < (N : Int) := by omega
      clear HX hc
      go_wp2
      exact ⟨⟨k + 1, by omega, by go_num⟩, by simp [intOf]; omega⟩
    · have i1 : ¬ ((k : Int) < (N : Int)) := by omega
      clear HX
      go_wp2
      exact bodyPost_ret (v := .bool true) (by simp [results, Tryd.results37, go_sem] <;> simp only [*]) rfl ⟨rfl, rfl⟩
end Go.Proofs.YtakcpoapokacgabDoor
