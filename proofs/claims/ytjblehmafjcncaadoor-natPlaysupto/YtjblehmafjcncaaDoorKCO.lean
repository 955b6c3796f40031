import Derived.Test.YtjblehmafjcncaaDoorProg
import Derived.Test.YtjblehmafjcncaaDoorKXA0
import Derived.Test.YtjblehmafjcncaaDoorKXM
import Derived.WalkKit
import Derived.ProofKit
import Derived.RowKit3
import Derived.WalkSpells
import Derived.StillTactics
import Derived.Deep.QuietTactic
import Derived.BigQuiet
import Derived.Below
import Derived.Deep.OwnRows
namespace Go.Proofs.YtjblehmafjcncaaDoor
open Go.RowKit
set_option maxRecDepth 20000 in
set_option maxHeartbeats 400000 in
theorem isnan_i (x : Int) (w : World) : Calls Tryd.prog 62 #[.int .i64 x] w fun e w' => e = .returned (.bool false) ∧ w' = w := by
  go_enter Tryd.func62, Tryd.ntmps62
  go_wp2
  exact bodyPost_ret (v := .bool false) (by simp [results, Tryd.results62, go_sem] <;> simp only [*]) rfl ⟨rfl, rfl⟩
set_option maxRecDepth 20000 in
set_option maxHeartbeats 400000 in
theorem compare_i (x y : Int) (w : World) : Calls Tryd.prog 37 #[.int .i64 x, .int .i64 y] w fun e w' => e = .returned (.int .i64 (cmpz x y)) ∧ w' = w := by
  rcases (by omega : x < y ∨ y < x ∨ x = y) with c | c | c
  · have ec : cmpz x y = -1 := by unfold cmpz; simp [c]
    rw [ec]; clear ec
    go_enter Tryd.func37, Tryd.ntmps37
    go_wp2_with (first | (go_at_call 62; refine (isnan_i _ _).mono ?_; rintro e w' ⟨rfl, rfl⟩))
    exact bodyPost_ret (v := .int .i64 (-1)) (by simp [results, Tryd.results37, go_sem] <;> simp only [*]) rfl ⟨rfl, rfl⟩
  · have d : ¬ (x < y) := by omega
    have ec : cmpz x y = 1 := by unfold cmpz; simp [c, d]
    rw [ec]; clear ec
    go_enter Tryd.func37, Tryd.ntmps37
    go_wp2_with (first | (go_at_call 62; refine (isnan_i _ _).mono ?_; rintro e w' ⟨rfl, rfl⟩))
    exact bodyPost_ret (v := .int .i64 1) (by simp [results, Tryd.results37, go_sem] <;> simp only [*]) rfl ⟨rfl, rfl⟩
  · subst c
    have d : ¬ (x < x) := by omega
    have ec : cmpz x x = 0 := by unfold cmpz; simp
    rw [ec]; clear ec
    go_enter Tryd.func37, Tryd.ntmps37
    go_wp2_with (first | (go_at_call 62; refine (isnan_i _ _).mono ?_; rintro e w' ⟨rfl, rfl⟩))
    exact bodyPost_ret (v := .int .i64 0) (by simp [results, Tryd.results37, go_sem] <;> simp only [*]) rfl ⟨rfl, rfl⟩
set_option maxRecDepth 20000 in
set_option maxHeartbeats 400000 in
theorem isnan_u (x : Int) (w : World) : Calls Tryd.prog 63 #[.int .u32 x] w fun e w' => e = .returned (.bool false) ∧ w' = w := by
  go_enter Tryd.func63, Tryd.ntmps63
  go_wp2
  exact bodyPost_ret (v := .bool false) (by simp [results, Tryd.results63, go_sem] <;> simp only [*]) rfl ⟨rfl, rfl⟩
set_option maxRecDepth 20000 in
set_option maxHeartbeats 400000 in
theorem compare_u (x y : Int) (w : World) : Calls Tryd.prog 38 #[.int .u32 x, .int .u32 y] w fun e w' => e = .returned (.int .i64 (cmpz x y)) ∧ w' = w := by
  rcases (by omega : x < y ∨ y < x ∨ x = y) with c | c | c
  · have ec : cmpz x y = -1 := by unfold cmpz; simp [c]
    rw [ec]; clear ec
    go_enter Tryd.func38, Tryd.ntmps38
    go_wp2_with (first | (go_at_call 63; refine (isnan_u _ _).mono ?_; rintro e w' ⟨rfl, rfl⟩))
    exact bodyPost_ret (v := .int .i64 (-1)) (by simp [results, Tryd.results38, go_sem] <;> simp only [*]) rfl ⟨rfl, rfl⟩
  · have d : ¬ (x < y) := by omega
    have ec : cmpz x y = 1 := by unfold cmpz; simp [c, d]
    rw [ec]; clear ec
    go_enter Tryd.func38, Tryd.ntmps38
    go_wp2_with (first | (go_at_call 63; refine (isnan_u _ _).mono ?_; rintro e w' ⟨rfl, rfl⟩))
    exact bodyPost_ret (v := .int .i64 1) (by simp [results, Tryd.results38, go_sem] <;> simp only [*]) rfl ⟨rfl, rfl⟩
  · subst c
    have d : ¬ (x < x) := by omega
    have ec : cmpz x x = 0 := by unfold cmpz; simp
    rw [ec]; clear ec
    go_enter Tryd.func38, Tryd.ntmps38
    go_wp2_with (first | (go_at_call 63; refine (isnan_u _ _).mono ?_; rintro e w' ⟨rfl, rfl⟩))
    exact bodyPost_ret (v := .int .i64 0) (by simp [results, Tryd.results38, go_sem] <;> simp only [*]) rfl ⟨rfl, rfl⟩
end Go.Proofs.YtjblehmafjcncaaDoor
