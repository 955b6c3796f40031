import Derived.Test.YtolghomhigemgaaProg
import Derived.Test.YtolghomhigemgaaKXA0
import Derived.Test.YtolghomhigemgaaKXM
import Derived.Test.YtolghomhigemgaaKXT
import Derived.Test.YtolghomhigemgaaKXPR
import Derived.Test.YtolghomhigemgaaKLB
import Derived.Test.YtolghomhigemgaaKLN
import Derived.Test.YtolghomhigemgaaKXN
import Derived.Test.YtolghomhigemgaaKXRN
import Derived.Test.YtolghomhigemgaaKXTZ
import Derived.WalkKit
import Derived.ProofKit
import Derived.RowKit3
import Derived.WalkSpells
import Derived.StillTactics
import Derived.Deep.QuietTactic
import Derived.BigQuiet
import Derived.Below
import Derived.Deep.OwnRows
import Derived.OwnWalk
import Derived.Laws.BitsAllLaws
import Derived.Laws.Slices
import Derived.Laws.Bits64b
import Derived.Deep.RegionHeld3
import Derived.Deep.RegionWith
namespace Go.Proofs.Ytolghomhigemgaa
open Go.RowKit
set_option maxRecDepth 20000 in
theorem sl32l (g o L K : Nat) (h : o + K = L) (hK : 0 < K) (w : World) : (Instr.slice 25 (.slice (some ⟨g, 0, none⟩) L L) (some (.int .i64 (o : Int))) none none).run Try.prog w = .ok (.slice (some ⟨g, o, none⟩) K K) w := by
  rw [run_slice_l w 25 (some ⟨g, 0, none⟩) L L Try.underlying25 .i64 (o : Int) (by omega) (by omega)]
  have e : (sizeOf (Try.prog.elem 25)).run Try.prog w = .ok 1 w := by kernel_rfl
  have e2 : L - o = K := by omega
  have e3 : ¬ L = o := by omega
  rw [e]
  simp [Result.andThen, sliced, e2, e3, Addr.add_lit]
theorem pow_split (m : Nat) : 2 ^ (m % 32) * 4294967296 ^ (m / 32) = 2 ^ m := by
  rw [pow32, ← Nat.pow_add, show m % 32 + 32 * (m / 32) = m from by omega]
set_option maxRecDepth 20000 in
theorem sl32a (b off o N c : Nat) (h : o < N) (hc : N ≤ c) (w : World) : (Instr.slice 25 (.slice (some ⟨b, off, none⟩) N c) (some (.int .i64 (o : Int))) none none).run Try.prog w = .ok (.slice (some ⟨b, off + o, none⟩) (N - o) (c - o)) w := by
  rw [run_slice_l w 25 (some ⟨b, off, none⟩) N c Try.underlying25 .i64 (o : Int) (by omega) (by omega)]
  have e : (sizeOf (Try.prog.elem 25)).run Try.prog w = .ok 1 w := by kernel_rfl
  have e3 : ¬ c = o := by omega
  rw [e]
  simp [Result.andThen, sliced, e3, Addr.add_lit]
end Go.Proofs.Ytolghomhigemgaa
