import Derived.Test.YtbdeppdjelcioaaDoorProg
import Derived.Test.YtbdeppdjelcioaaDoorM
import Derived.Test.YtbdeppdjelcioaaDoorM5
import Derived.Test.YtbdeppdjelcioaaDoorM6
import Derived.Test.YtbdeppdjelcioaaDoorM7
import Derived.Test.YtbdeppdjelcioaaDoorM8
import Derived.Test.YtbdeppdjelcioaaDoorA
import Derived.Test.YtbdeppdjelcioaaDoorZd
import Derived.WalkKit
import Derived.ProofKit
import Derived.RowKit3
import Derived.Deep.RegionHeld3
import Derived.WalkSpells
import Derived.StillTactics
import Derived.Laws.FloatArith
import Derived.Deep.QuietTactic
import Derived.BigQuiet
namespace Go.Proofs.YtbdeppdjelcioaaDoor
open Go.RowKit
open Ieee
set_option maxRecDepth 20000 in
set_option maxHeartbeats 1000000 in
theorem of_d (z : Int) (h1 : -9223372036854775808 ≤ z) (h2 : z < 9223372036854775808) (w : World) :
    Calls Tryd.prog 21 #[.int .i64 z] w fun e w' => e = .returned (.tuple #[.float .f64 (wD (decide (z < 0)) (zr double z)), .bool (exqD z)]) ∧ w' = w := by
  have he := ofD z h1 h2
  have hi := ofIntD z
  have hr := zrD_lt z h1 h2
  have hw := whole_d (decide (z < 0)) (zr double z) (by omega)
  obtain ⟨X, hX⟩ : ∃ X : Nat, X = wD (decide (z < 0)) (zr double z) := ⟨_, rfl⟩
  obtain ⟨b, hb⟩ : ∃ b : Bool, b = wokD (decide (z < 0)) (zr double z) := ⟨_, rfl⟩
  obtain ⟨q, hq⟩ : ∃ q : Bool, q = exqD z := ⟨_, rfl⟩
  rw [← hX] at hw hi ⊢
  rw [← hb] at hw he
  rw [← hq] at he ⊢
  obtain ⟨v, hv⟩ : ∃ v : Int, v = (if b = true then wvD (decide (z < 0)) (zr double z) else 0) := ⟨_, rfl⟩
  rw [← hv] at hw he
  clear hX hb hq hv h1 h2 hr
  cases b
  · have e1 : q = false := by rw [← he]; rfl
    subst e1
    clear he
    go_enter Tryd.func21, Tryd.ntmps21
    go_wp2_with (first | (go_at_call 20; refine (hw _).mono ?_; rintro e w' ⟨rfl, rfl⟩))
    exact bodyPost_ret (v := .tuple #[.float .f64 X, .bool false]) (by simp [results, Tryd.results21, go_sem] <;> simp only [*]) rfl ⟨rfl, rfl⟩
  · have e1 : (v == z) = q := by rw [← he]; rfl
    clear he
    go_enter Tryd.func21, Tryd.ntmps21
    go_wp2_with (first | (go_at_call 20; refine (hw _).mono ?_; rintro e w' ⟨rfl, rfl⟩))
    exact bodyPost_ret (v := .tuple #[.float .f64 X, .bool q]) (by simp [results, Tryd.results21, go_sem] <;> simp only [*]) rfl ⟨rfl, rfl⟩
end Go.Proofs.YtbdeppdjelcioaaDoor
