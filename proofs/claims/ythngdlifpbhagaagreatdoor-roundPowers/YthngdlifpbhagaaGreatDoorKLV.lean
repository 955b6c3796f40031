import Derived.Test.YthngdlifpbhagaaGreatDoorProg
import Derived.Test.YthngdlifpbhagaaGreatDoorKXM
import Derived.Test.YthngdlifpbhagaaGreatDoorKLB
import Derived.Test.YthngdlifpbhagaaGreatDoorKLU
import Derived.WalkKit
import Derived.ProofKit
import Derived.RowKit3
import Derived.WalkSpells
import Derived.StillTactics
import Derived.Deep.QuietTactic
import Derived.BigQuiet
import Derived.Below
import Derived.Deep.OwnRows
namespace Go.Proofs.YthngdlifpbhagaaGreatDoor
open Go.RowKit
set_option maxRecDepth 20000 in
theorem lenu_ (X : Nat) (h : X < 18446744073709551616) (w : World) : Calls Tryz.prog 130 #[.int .u64 (X : Int)] w fun e w' => e = .returned (.int .i64 (blen X : Nat)) ∧ w' = w := by
  have h1 := len64_ (X : Int) (by omega) (by omega)
  rw [Int.toNat_natCast, blen_lib X h] at h1
  obtain ⟨L, hL⟩ : ∃ L, L = blen X := ⟨_, rfl⟩
  rw [← hL] at h1 ⊢
  clear hL
  have f1 : IntKind.u64.wrap (X : Int) = (X : Int) := by rw [IntKind.wrap_u64]; omega
  clear h
  go_enter Tryz.func130, Tryz.ntmps130
  go_wp2_with (first | (go_at_call 122; refine (h1 _).mono ?_; rintro e w' ⟨rfl, hw'⟩; obtain rfl := hw'.symm))
  exact bodyPost_ret (v := .int .i64 (L : Int)) (by simp [results, Tryz.results130, go_sem] <;> simp only [*]) rfl ⟨rfl, rfl⟩
end Go.Proofs.YthngdlifpbhagaaGreatDoor
