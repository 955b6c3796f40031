import Derived.Test.YtakcpoapokacgabDoorProg
import Derived.Test.YtakcpoapokacgabDoorMM
import Derived.Test.YtakcpoapokacgabDoorLB
import Derived.Test.YtakcpoapokacgabDoorLU
import Derived.WalkKit
import Derived.ProofKit
import Derived.RowKit3
import Derived.WalkSpells
import Derived.StillTactics
import Derived.Deep.QuietTactic
import Derived.BigQuiet
import Derived.Below
import Derived.Deep.OwnRows
namespace Go.Proofs.YtakcpoapokacgabDoor
open Go.RowKit
set_option maxRecDepth 20000 in
theorem lenu_ (X : Nat) (h : X < 18446744073709551616) (w : World) : Calls Tryd.prog 92 #[.int .u64 (X : Int)] w fun e w' => e = .returned (.int .i64 (blen X : Nat)) ∧ w' = w := by
  have h1 := len64_ (X : Int) (by omega) (by omega)
  rw [Int.toNat_natCast, blen_lib X h] at h1
  obtain ⟨L, hL⟩ : ∃ L, L = blen X := ⟨_, rfl⟩
  rw [← hL] at h1 ⊢
  clear hL
  have f1 : IntKind.u64.wrap (X : Int) = (X : Int) := by rw [IntKind.wrap_u64]; omega
  clear h
  go_enter Tryd.func92, Tryd.ntmps92
  go_wp2_with (first | (go_at_call 96; refine (h1 _).mono ?_; rintro e w' ⟨rfl, hw'⟩; obtain rfl := hw'.symm))
  exact bodyPost_ret (v := .int .i64 (L : Int)) (by simp [results, Tryd.results92, go_sem] <;> simp only [*]) rfl ⟨rfl, rfl⟩
end Go.Proofs.YtakcpoapokacgabDoor
