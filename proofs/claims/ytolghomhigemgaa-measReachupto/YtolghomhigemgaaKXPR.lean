import Derived.Test.YtolghomhigemgaaProg
import Derived.Test.YtolghomhigemgaaKXA0
import Derived.Test.YtolghomhigemgaaKXM
import Derived.Test.YtolghomhigemgaaKXT
import Derived.Test.YtolghomhigemgaaKLB
import Derived.Test.YtolghomhigemgaaKLN
import Derived.WalkKit
import Derived.ProofKit
import Derived.RowKit3
import Derived.WalkSpells
import Derived.StillTactics
import Derived.Deep.QuietTactic
import Derived.BigQuiet
import Derived.Below
import Derived.Deep.OwnRows
import Derived.OwnWalk
import Derived.Deep.RegionHeld3
import Derived.Laws.Slices
namespace Go.Proofs.Ytolghomhigemgaa
open Go.RowKit
theorem Kb.kp2 {g : Nat} {w w' w'' : World} (h : Kb g w w') (k : Kp w' w'') : Kb g w w'' :=
  ⟨k.os.trans h.1, k.tape.trans h.2.1, k.output.trans h.2.2.1, Nat.le_trans h.2.2.2.1 k.size, fun i hi hne => (Below.block k i (Nat.lt_of_lt_of_le hi h.2.2.2.1)).trans (h.2.2.2.2 i hi hne)⟩
set_option maxRecDepth 20000 in
theorem sl32 (g k M n : Nat) (h : k + M ≤ n) (hk : k < n) (w : World) : (Instr.slice 25 (.slice (some ⟨g, 0, none⟩) n n) (some (.int .i64 (k : Int))) (some (.int .i64 ((k : Int) + (M : Int)))) none).run Try.prog w = .ok (.slice (some ⟨g, k, none⟩) M (n - k)) w := by
  rw [run_slice_lh w 25 (some ⟨g, 0, none⟩) n n Try.underlying25 .i64 .i64 (k : Int) ((k : Int) + (M : Int)) (by omega) (by omega) (by omega)]
  have e : (sizeOf (Try.prog.elem 25)).run Try.prog w = .ok 1 w := by kernel_rfl
  have e2 : ((k : Int) + (M : Int)).toNat - k = M := by omega
  have e3 : ¬ n = k := by omega
  rw [e]
  simp [Result.andThen, sliced, e2, e3, Addr.add_lit]
theorem val_zeros (zs : List Int) (h : ∀ j, zs.getD j 0 = 0) : val zs = 0 := by
  induction zs with
  | nil => rfl
  | cons z r ih =>
    have h0 := h 0
    simp at h0
    have := ih (fun j => by have := h (j + 1); simpa using this)
    simp [val, h0, this]
theorem Wd_rep0 (n : Nat) : Wd (List.replicate n (0 : Int)) := by
  intro j
  by_cases c : j < n
  · simp [List.getD, c]
  · simp [List.getD, c]
theorem rep0_getD (n j : Nat) : (List.replicate n (0 : Int)).getD j 0 = 0 := by
  by_cases c : j < n
  · simp [List.getD, c]
  · simp [List.getD, c]
end Go.Proofs.Ytolghomhigemgaa
