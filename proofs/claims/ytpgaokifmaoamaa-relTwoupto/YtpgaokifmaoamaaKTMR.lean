import Derived.Test.YtpgaokifmaoamaaProg
import Derived.Test.YtpgaokifmaoamaaKXA0
import Derived.Test.YtpgaokifmaoamaaKXM
import Derived.Test.YtpgaokifmaoamaaKXY
import Derived.Test.YtpgaokifmaoamaaKXT
import Derived.Test.YtpgaokifmaoamaaKXLB
import Derived.Test.YtpgaokifmaoamaaKRX
import Derived.Test.YtpgaokifmaoamaaKXRL
import Derived.Test.YtpgaokifmaoamaaKXCO
import Derived.Test.YtpgaokifmaoamaaKLN
import Derived.Test.YtpgaokifmaoamaaKXRN
import Derived.Test.YtpgaokifmaoamaaKW4
import Derived.Test.YtpgaokifmaoamaaKBY
import Derived.Test.YtpgaokifmaoamaaKBW
import Derived.Test.YtpgaokifmaoamaaKXTZ
import Derived.Test.YtpgaokifmaoamaaKXG1
import Derived.Test.YtpgaokifmaoamaaKNSm
import Derived.Test.YtpgaokifmaoamaaKRT
import Derived.Test.YtpgaokifmaoamaaKEKF
import Derived.Test.YtpgaokifmaoamaaKXG4
import Derived.WalkKit
import Derived.ProofKit
import Derived.RowKit3
import Derived.WalkSpells
import Derived.StillTactics
import Derived.Deep.QuietTactic
import Derived.BigQuiet
import Derived.Below
import Derived.Deep.OwnRows
import Derived.OwnWalk
import Derived.Laws.BitsAllLaws
import Derived.Laws.Slices
import Derived.Laws.Bits64b
namespace Go.Proofs.Ytpgaokifmaoamaa
open Go.RowKit
set_option maxRecDepth 20000 in
set_option maxHeartbeats 400000 in
theorem timesR (v1 v2 : Value) (a b : Nat) (w : World) (h1 : Ls w v1 (dig a)) (h2 : Ls w v2 (dig b)) (l1 : len32 a ≤ 16384) (l2 : len32 b ≤ 16384) :
    Calls Try.prog 21 #[v1, v2] w fun e w' => ∃ p c, e = .returned (.slice p (dig (a * b)).length c) ∧ Arr w' p (dig (a * b)) ∧ (dig (a * b)).length ≤ c ∧ Kp w w' := by
  obtain ⟨p, c, rfl, hA, hc⟩ := h1
  obtain ⟨q, d, rfl, hB, hd⟩ := h2
  have h := rtimes_ p q c d (dig a) (dig b) w hA hB (Wd_dig a) (Wd_dig b) (by change len32 a ≤ _; omega) (by change len32 b ≤ _; omega)
  rw [val_dig, val_dig] at h
  refine h.mono ?_
  rintro e w' ⟨v, h1, h2, h3⟩
  obtain ⟨p, c, rfl, h4, h5⟩ := h2.arr
  exact ⟨p, c, h1, h4, h5, h3⟩
end Go.Proofs.Ytpgaokifmaoamaa
