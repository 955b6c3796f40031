import Derived.Test.YtaamimpanpgifaaProg
import Derived.Test.YtaamimpanpgifaaKXM
import Derived.Test.YtaamimpanpgifaaKLB
import Derived.Test.YtaamimpanpgifaaKLU
import Derived.WalkKit
import Derived.ProofKit
import Derived.RowKit3
import Derived.WalkSpells
import Derived.StillTactics
import Derived.Deep.QuietTactic
import Derived.BigQuiet
import Derived.Below
import Derived.Deep.OwnRows
namespace Go.Proofs.Ytaamimpanpgifaa
open Go.RowKit
set_option maxRecDepth 20000 in
theorem lenu_ (X : Nat) (h : X < 18446744073709551616) (w : World) : Calls Try.prog 35 #[.int .u64 (X : Int)] w fun e w' => e = .returned (.int .i64 (blen X : Nat)) ∧ w' = w := by
  have h1 := len64_ (X : Int) (by omega) (by omega)
  rw [Int.toNat_natCast, blen_lib X h] at h1
  obtain ⟨L, hL⟩ : ∃ L, L = blen X := ⟨_, rfl⟩
  rw [← hL] at h1 ⊢
  clear hL
  have f1 : IntKind.u64.wrap (X : Int) = (X : Int) := by rw [IntKind.wrap_u64]; omega
  clear h
  go_enter Try.func35, Try.ntmps35
  go_wp2_with (first | (go_at_call 45; refine (h1 _).mono ?_; rintro e w' ⟨rfl, hw'⟩; obtain rfl := hw'.symm))
  exact bodyPost_ret (v := .int .i64 (L : Int)) (by simp [results, Try.results35, go_sem] <;> simp only [*]) rfl ⟨rfl, rfl⟩
end Go.Proofs.Ytaamimpanpgifaa
