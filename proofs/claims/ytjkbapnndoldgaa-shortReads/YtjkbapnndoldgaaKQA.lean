import Derived.Test.YtjkbapnndoldgaaKQM
import Derived.Test.YtjkbapnndoldgaaProg
import Derived.BigQuiet
import Derived.Deep.QuietTactic
import Derived.Deep.RegionHeld3
import Derived.ProofKit
import Derived.RowKit3
import Derived.StillTactics
import Derived.WalkKit
import Derived.WalkSpells
namespace Go.Proofs.Ytjkbapnndoldgaa
open Go.RowKit
namespace Fq
def iS : Int := 2139095040
theorem c32 : floatToIntVal .f32 (floatOfInt .f32 16777217) .i64 = some 16777216 := by decide +kernel

def Grown (W w' : World) : Prop := Below W.heap.size W w'
theorem Grown.refl (W : World) : Grown W W := Below.refl _ _
theorem Grown.alloc {W w' : World} (h : Grown W w') (c : Array Value) (t : TypeId) : Grown W (w'.alloc (.cells c t)) := Below.alloc h (Below.size h) _
theorem Grown.drew {W w' : World} (h : Grown W w') : Grown W w'.drew := Below.drew h
theorem gtrans {a b c : World} (h : Grown a b) (g : Grown b c) : Grown a c := Below.trans h (Below.mono g (Below.size h))
theorem gdrewN {a b : World} (n : Nat) (h : Grown a b) : Grown a (b.drewN n) := by
  induction n with
  | zero => exact h
  | succ n ih => exact Below.drew ih
theorem gcell {W w : World} (h : Grown W w) (b o : Nat) (hb : b < W.heap.size) : w.cell? ⟨b, o, none⟩ = W.cell? ⟨b, o, none⟩ := Below.cell h hb
theorem cell_lt {w : World} {b o : Nat} {v : Value} (h : w.cell? ⟨b, o, none⟩ = some v) : b < w.heap.size := by
  unfold World.cell? at h
  by_cases c : b < w.heap.size
  · exact c
  · rw [Array.getElem?_eq_none (by simpa using c)] at h; simp at h
theorem gkeep {W w : World} {b o : Nat} {v : Value} (g : Grown W w) (h : W.cell? ⟨b, o, none⟩ = some v) : w.cell? ⟨b, o, none⟩ = some v := by
  rw [gcell g b o (cell_lt h)]; exact h
theorem fb32 (x : Nat) (w : World) : (callFunc 30 #[.float .f32 x]).run Try.prog w = .ok (.value (.int .u32 (x : Int))) w := by kernel_rfl
theorem ff64 (x : Nat) (w : World) : (callFunc 42 #[.int .u64 (x : Int)]).run Try.prog w = .ok (.value (.float .f64 x)) w := by kernel_rfl
set_option maxRecDepth 20000 in
set_option maxHeartbeats 400000 in
theorem full_S (w : World) : Calls Try.prog 111 #[.agg #[.int .i64 24, .int .i64 (-149), .int .i64 104]] w fun e w' => e = .returned (.int .i64 8388608) ∧ w' = w.alloc (.cells #[.int .i64 24, .int .i64 (-149), .int .i64 104] 124) := by
  go_enter Try.func111, Try.ntmps111
  go_wp2
  exact bodyPost_ret (v := .int .i64 8388608) (by simp [results, Try.results111, go_sem]) rfl ⟨rfl, rfl⟩

set_option maxRecDepth 20000 in
set_option maxHeartbeats 400000 in
theorem infi_S (w : World) : Calls Try.prog 91 #[.agg #[.int .i64 24, .int .i64 (-149), .int .i64 104]] w fun e w' => e = .returned (.int .i64 iS) ∧ w' = ((w.alloc (.cells #[.int .i64 24, .int .i64 (-149), .int .i64 104] 124)).alloc (.cells #[.int .i64 24, .int .i64 (-149), .int .i64 104] 124)).drew := by
  go_enter Try.func91, Try.ntmps91
  go_wp2
  go_region_held3 (fun w' => w'.cell? ⟨w.heap.size, 0, none⟩ = some (.int .i64 24) ∧ w'.cell? ⟨w.heap.size, 1, none⟩ = some (.int .i64 (-149)) ∧ w'.cell? ⟨w.heap.size, 2, none⟩ = some (.int .i64 104)) (simp [go_sem, World.cell?_alloc_past]) (first | (go_at_call 111; refine (full_S _).mono ?_; rintro e w' ⟨rfl, rfl⟩))
  go_wp2
  rw [show IntKind.i64.wrap (IntKind.i64.wrap (IntKind.i64.wrap 253 + 2) * 8388608) = iS from by decide +kernel]
  exact bodyPost_ret (v := .int .i64 iS) (by simp [results, Try.results91, go_sem]) rfl ⟨rfl, rfl⟩

set_option maxRecDepth 20000 in
set_option maxHeartbeats 400000 in
theorem isB_s (w : World) : Calls Try.prog 110 #[] w fun e w' => e = .returned (.bool false) ∧ w' = w := by
  have h2 := run_convert_float_int (P := Try.prog) w 26 2 .f32 .i64 _ _ (by kernel_rfl) (by kernel_rfl) c32
  go_enter Try.func110, Try.ntmps110
  go_wp2
  go_ret
  exact ⟨rfl, rfl⟩

set_option maxRecDepth 20000 in
set_option maxHeartbeats 400000 in
theorem lay_s (w : World) : Calls Try.prog 90 #[] w fun e w' => e = .returned (.agg #[.int .i64 24, .int .i64 (-149), .int .i64 104]) ∧ w' = w.alloc (.cells #[.int .i64 24, .int .i64 (-149), .int .i64 104] 124) := by
  go_enter Try.func90, Try.ntmps90
  go_wp2_with (go_at_call 110; refine (isB_s _).mono ?_; rintro e w' ⟨rfl, rfl⟩)
  exact bodyPost_ret (v := .agg #[.int .i64 24, .int .i64 (-149), .int .i64 104]) (by simp [results, Try.results90, go_sem]) rfl ⟨rfl, rfl⟩

set_option maxRecDepth 20000 in
set_option maxHeartbeats 400000 in
theorem patt_s (n : Bool) (m : Nat) (hm : m < 2147483648) (w : World) : Calls Try.prog 89 #[.float .f32 (wS n m)] w fun e w' => e = .returned (.tuple #[.bool n, .int .i64 (m : Int)]) ∧ w' = w := by
  have hx : wS n m < 4294967296 := by unfold wS; split <;> omega
  go_enter Try.func89, Try.ntmps89
  go_wp2_with (first | (go_at_call 110; refine (isB_s _).mono ?_; rintro e w' ⟨rfl, rfl⟩) | simp only [fb32])
  rw [andS n m hm, shrS n m hm]
  exact bodyPost_ret (v := .tuple #[.bool n, .int .i64 (m : Int)]) (by simp [results, Try.results89, go_sem]) rfl ⟨rfl, rfl⟩

end Fq
end Go.Proofs.Ytjkbapnndoldgaa
