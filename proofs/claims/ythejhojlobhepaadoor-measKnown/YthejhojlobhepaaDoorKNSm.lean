import Derived.Test.YthejhojlobhepaaDoorProg
import Derived.Test.YthejhojlobhepaaDoorKXA0
import Derived.Test.YthejhojlobhepaaDoorKXM
import Derived.Test.YthejhojlobhepaaDoorKXT
import Derived.WalkKit
import Derived.ProofKit
import Derived.RowKit3
import Derived.WalkSpells
import Derived.StillTactics
import Derived.Deep.QuietTactic
import Derived.BigQuiet
import Derived.Below
import Derived.Deep.OwnRows
import Derived.OwnWalk
namespace Go.Proofs.YthejhojlobhepaaDoor
open Go.RowKit
theorem row2 (w : World) (x y : Int) : Rw (w.alloc (.cells #[.int .u32 x, .int .u32 y] 74)) w.heap.size 2 [x, y] := by
  have := World.rowIs_alloc w #[.int .u32 x, .int .u32 y] 74 (fun i => .int .u32 ([x, y].getD i 0)) (fun i hi => by
    have h : i = 0 ∨ i = 1 := by simp at hi; omega
    rcases h with rfl | rfl <;> rfl)
  exact this
theorem row1 (w : World) (x : Int) : Rw (w.alloc (.cells #[.int .u32 x] 74)) w.heap.size 1 [x] := by
  have := World.rowIs_alloc w #[.int .u32 x] 74 (fun i => .int .u32 ([x].getD i 0)) (fun i hi => by
    have h : i = 0 := by simp at hi; omega
    rcases h with rfl; rfl)
  exact this
theorem own1 (w : World) : Own (w.alloc (.cells #[.int .u32 1] 74)) w.heap.size (.slice (some ⟨w.heap.size, 0, none⟩) 1 1) [1] :=
  Own.of_row (row1 w 1) (Nat.le_refl _) (Nat.le_refl _) rfl (by unfold maxLen; omega)
set_option maxRecDepth 20000 in
set_option maxHeartbeats 1000000 in
theorem nsmall_ (v : Nat) (hv : v < 18446744073709551616) (w : World) :
    Calls Tryd.prog 44 #[.int .u64 (v : Int)] w fun e w' => ∃ r, e = .returned r ∧ Own w' w.heap.size r (dig v) ∧ Kp w w' := by
  obtain ⟨lo, hlo⟩ : ∃ lo : Nat, lo = v % 4294967296 := ⟨_, rfl⟩
  obtain ⟨hi, hhi⟩ : ∃ hi : Nat, hi = v / 4294967296 := ⟨_, rfl⟩
  have f1 : IntKind.u32.wrap (v : Int) = (lo : Int) := by rw [IntKind.wrap_u32]; omega
  have f2 : (v : Int) / 4294967296 = (hi : Int) := by omega
  have f3 : IntKind.u32.wrap (hi : Int) = (hi : Int) := by rw [IntKind.wrap_u32]; omega
  have hw : Wd [(lo : Int), (hi : Int)] := Wd.mk (by omega) (Wd.mk (by omega) Wd.nil)
  have hval : val [(lo : Int), (hi : Int)] = v := by simp [val]; omega
  have hr := row2 w (lo : Int) (hi : Int)
  have htr := trim_ (some ⟨w.heap.size, 0, none⟩) 2 [(lo : Int), (hi : Int)] _ (by simpa using hr.arr 2 (Nat.le_refl _) (by simp)) (by simp) (by simp)
  have hO : Own (w.alloc (.cells #[.int .u32 (lo : Int), .int .u32 (hi : Int)] 74)) w.heap.size (.slice (some ⟨w.heap.size, 0, none⟩) (tl [(lo : Int), (hi : Int)]) 2) (dig v) := by
    have h1 := Own.of_row (base := w.heap.size) (k := tl [(lo : Int), (hi : Int)]) hr (Nat.le_refl _) (tl_le _) rfl (by unfold maxLen; omega)
    have h2 : [(lo : Int), (hi : Int)].take (tl [(lo : Int), (hi : Int)]) = dig v := by rw [← hval, ← nz_dig _ hw]; rfl
    rw [h2] at h1
    exact h1
  have hk : Kp w (w.alloc (.cells #[.int .u32 (lo : Int), .int .u32 (hi : Int)] 74)) := (Kp.refl w).alloc _
  obtain ⟨T, hT⟩ : ∃ T, T = tl [(lo : Int), (hi : Int)] := ⟨_, rfl⟩
  rw [← hT] at htr hO
  have htr2 : Calls Tryd.prog 56 #[.slice (some ⟨w.heap.size, 0, none⟩) 2 2] (w.alloc (.cells #[.int .u32 (lo : Int), .int .u32 (hi : Int)] 74)) fun e w' => e = .returned (.slice (some ⟨w.heap.size, 0, none⟩) T 2) ∧ w' = w.alloc (.cells #[.int .u32 (lo : Int), .int .u32 (hi : Int)] 74) := htr
  clear htr hT hval hw hlo hhi hv hr
  go_enter Tryd.func44, Tryd.ntmps44
  go_wp2_with fail
  refine htr2.mono ?_; rintro e w' ⟨rfl, hw'⟩; subst hw'
  clear htr2
  go_wp2
  exact bodyPost_ret (v := .slice (some ⟨w.heap.size, 0, none⟩) T 2) (by simp [results, Tryd.results44, go_sem] <;> simp only [*]) rfl ⟨_, rfl, hO, hk⟩
end Go.Proofs.YthejhojlobhepaaDoor
