import Derived.Test.YtgkdncjdekjkpaaDoorProg
import Derived.Test.YtgkdncjdekjkpaaDoorKA
import Derived.WalkKit
import Derived.ProofKit
import Derived.RowKit3
import Derived.WalkSpells
import Derived.StillTactics
import Derived.Deep.QuietTactic
import Derived.BigQuiet
import Derived.Below
import Derived.Deep.OwnRows
namespace Go.Proofs.YtgkdncjdekjkpaaDoor
open Go.RowKit
open Go
/-- block g is a row of n words, the first ones xs, the others 0 -/
def Rw (w : World) (g n : Nat) (xs : List Int) : Prop := w.rowIs g 41 n (fun j => .int .u32 (xs.getD j 0))
theorem rowIs_grown {w w' : World} {g : Nat} {t : TypeId} {n : Nat} {f : Nat → Value} (h : w.rowIs g t n f) (gr : Kp w w') : w'.rowIs g t n f := by
  exact h.of_block (Below.block gr g h.lt)
theorem Rw.grown {w w' : World} {g n : Nat} {xs : List Int} (h : Rw w g n xs) (gr : Kp w w') : Rw w' g n xs := rowIs_grown h gr
/-- a row, looked at as a slice -/
theorem Rw.arr {w : World} {g n : Nat} {xs : List Int} (h : Rw w g n xs) (k : Nat) (hk : k ≤ n) (hx : k ≤ xs.length) : Arr w (some ⟨g, 0, none⟩) (xs.take k) := by
  refine Or.inr ⟨g, 0, rfl, fun j hj => ?_⟩
  have hj2 : j < k := by simp at hj; omega
  rw [Nat.zero_add, World.rowIs.cell h (by omega)]
  simp [List.getD, hj2]
theorem inf32 : (Tryd.prog.info? 41).map (fun i => (i.zero, i.size, i.bytes)) = some (some (.int .u32 0), 1, 4) := by kernel_rfl
theorem mk32 (n : Nat) (h : n ≤ 1099511627776) (w : World) : (Instr.makeSlice 22 (.int .i64 (n : Int)) (.int .i64 (n : Int))).run Tryd.prog w = .ok (.slice (some ⟨w.heap.size, 0, none⟩) n n) (w.alloc (.cells (madeCells #[.int .u32 0] n) 41)) :=
  run_make_row' 22 41 (.int .u32 0) 4 Tryd.underlying22 inf32 rfl .i64 .i64 n (by omega) (by omega) w
theorem set_step {w : World} {g n k : Nat} {xs : List Int} (h : w.rowIs g 41 n (fun j => .int .u32 (if j < k then xs.getD j 0 else 0))) : (w.setCell ⟨g, k, none⟩ (.int .u32 (xs.getD k 0))).rowIs g 41 n (fun j => .int .u32 (if j < k + 1 then xs.getD j 0 else 0)) := by
  refine (h.set k (.int .u32 (xs.getD k 0))).congr (fun j _ => ?_)
  by_cases c : j = k
  · subst c; rw [if_pos rfl, if_pos (by omega)]
  · rw [if_neg c]
    by_cases d : j < k
    · rw [if_pos d, if_pos (by omega)]
    · rw [if_neg d, if_neg (by omega)]
end Go.Proofs.YtgkdncjdekjkpaaDoor
