import Derived.Test.YtolghomhigemgaaProg
import Derived.Test.YtolghomhigemgaaKXA0
import Derived.Test.YtolghomhigemgaaKXM
import Derived.Test.YtolghomhigemgaaKXY
import Derived.Test.YtolghomhigemgaaKXT
import Derived.Test.YtolghomhigemgaaKXLB
import Derived.Test.YtolghomhigemgaaKRX
import Derived.Test.YtolghomhigemgaaKXRL
import Derived.Test.YtolghomhigemgaaKXCO
import Derived.Test.YtolghomhigemgaaKLN
import Derived.Test.YtolghomhigemgaaKXRN
import Derived.Test.YtolghomhigemgaaKW4
import Derived.Test.YtolghomhigemgaaKBY
import Derived.Test.YtolghomhigemgaaKBW
import Derived.Test.YtolghomhigemgaaKXTZ
import Derived.Test.YtolghomhigemgaaKXG1
import Derived.Test.YtolghomhigemgaaKNSm
import Derived.Test.YtolghomhigemgaaKRT
import Derived.Test.YtolghomhigemgaaKEKF
import Derived.Test.YtolghomhigemgaaKXG4
import Derived.WalkKit
import Derived.ProofKit
import Derived.RowKit3
import Derived.WalkSpells
import Derived.StillTactics
import Derived.Deep.QuietTactic
import Derived.BigQuiet
import Derived.Below
import Derived.Deep.OwnRows
import Derived.OwnWalk
import Derived.Laws.BitsAllLaws
import Derived.Laws.Slices
import Derived.Laws.Bits64b
namespace Go.Proofs.Ytolghomhigemgaa
open Go.RowKit
set_option maxRecDepth 20000 in
set_option maxHeartbeats 400000 in
theorem timesR (v1 v2 : Value) (a b : Nat) (w : World) (h1 : Ls w v1 (dig a)) (h2 : Ls w v2 (dig b)) (l1 : len32 a ≤ 16384) (l2 : len32 b ≤ 16384) :
    Calls Try.prog 29 #[v1, v2] w fun e w' => ∃ p c, e = .returned (.slice p (dig (a * b)).length c) ∧ Arr w' p (dig (a * b)) ∧ (dig (a * b)).length ≤ c ∧ Kp w w' := by
  obtain ⟨p, c, rfl, hA, hc⟩ := h1
  obtain ⟨q, d, rfl, hB, hd⟩ := h2
  have h := rtimes_ p q c d (dig a) (dig b) w hA hB (Wd_dig a) (Wd_dig b) (by change len32 a ≤ _; omega) (by change len32 b ≤ _; omega)
  rw [val_dig, val_dig] at h
  refine h.mono ?_
  rintro e w' ⟨v, h1, h2, h3⟩
  obtain ⟨p, c, rfl, h4, h5⟩ := h2.arr
  exact ⟨p, c, h1, h4, h5, h3⟩
end Go.Proofs.Ytolghomhigemgaa
