import Derived.Test.YtbdeppdjelcioaaDoorProg
import Derived.Test.YtbdeppdjelcioaaDoorM
import Derived.Test.YtbdeppdjelcioaaDoorM5
import Derived.Test.YtbdeppdjelcioaaDoorM6
import Derived.Test.YtbdeppdjelcioaaDoorM7
import Derived.Test.YtbdeppdjelcioaaDoorM8
import Derived.Test.YtbdeppdjelcioaaDoorA
import Derived.Test.YtbdeppdjelcioaaDoorZs
import Derived.WalkKit
import Derived.ProofKit
import Derived.RowKit3
import Derived.Deep.RegionHeld3
import Derived.WalkSpells
import Derived.StillTactics
import Derived.Laws.FloatArith
import Derived.Deep.QuietTactic
import Derived.BigQuiet
namespace Go.Proofs.YtbdeppdjelcioaaDoor
open Go.RowKit
open Ieee
set_option maxRecDepth 20000 in
set_option maxHeartbeats 1000000 in
theorem of_s (z : Int) (h1 : -9223372036854775808 ≤ z) (h2 : z < 9223372036854775808) (w : World) :
    Calls Tryd.prog 22 #[.int .i64 z] w fun e w' => e = .returned (.tuple #[.float .f32 (wS (decide (z < 0)) (zr single z)), .bool (exqS z)]) ∧ w' = w := by
  have he := ofS z h1 h2
  have hi := ofIntS z
  have hr := zrS_lt z h1 h2
  have hw := whole_s (decide (z < 0)) (zr single z) (by omega)
  obtain ⟨X, hX⟩ : ∃ X : Nat, X = wS (decide (z < 0)) (zr single z) := ⟨_, rfl⟩
  obtain ⟨b, hb⟩ : ∃ b : Bool, b = wokS (decide (z < 0)) (zr single z) := ⟨_, rfl⟩
  obtain ⟨q, hq⟩ : ∃ q : Bool, q = exqS z := ⟨_, rfl⟩
  rw [← hX] at hw hi ⊢
  rw [← hb] at hw he
  rw [← hq] at he ⊢
  obtain ⟨v, hv⟩ : ∃ v : Int, v = (if b = true then wvS (decide (z < 0)) (zr single z) else 0) := ⟨_, rfl⟩
  rw [← hv] at hw he
  clear hX hb hq hv h1 h2 hr
  cases b
  · have e1 : q = false := by rw [← he]; rfl
    subst e1
    clear he
    go_enter Tryd.func22, Tryd.ntmps22
    go_wp2_with (first | (go_at_call 53; refine (hw _).mono ?_; rintro e w' ⟨rfl, rfl⟩))
    exact bodyPost_ret (v := .tuple #[.float .f32 X, .bool false]) (by simp [results, Tryd.results22, go_sem] <;> simp only [*]) rfl ⟨rfl, rfl⟩
  · have e1 : (v == z) = q := by rw [← he]; rfl
    clear he
    go_enter Tryd.func22, Tryd.ntmps22
    go_wp2_with (first | (go_at_call 53; refine (hw _).mono ?_; rintro e w' ⟨rfl, rfl⟩))
    exact bodyPost_ret (v := .tuple #[.float .f32 X, .bool q]) (by simp [results, Tryd.results22, go_sem] <;> simp only [*]) rfl ⟨rfl, rfl⟩
end Go.Proofs.YtbdeppdjelcioaaDoor
