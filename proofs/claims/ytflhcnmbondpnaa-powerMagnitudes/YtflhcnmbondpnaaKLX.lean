import Derived.Test.YtflhcnmbondpnaaProg
import Derived.Test.YtflhcnmbondpnaaKXA0
import Derived.Test.YtflhcnmbondpnaaKXM
import Derived.Test.YtflhcnmbondpnaaKXT
import Derived.Test.YtflhcnmbondpnaaKHB
import Derived.Test.YtflhcnmbondpnaaKXY
import Derived.WalkKit
import Derived.ProofKit
import Derived.RowKit3
import Derived.WalkSpells
import Derived.StillTactics
import Derived.Deep.QuietTactic
import Derived.BigQuiet
import Derived.Below
import Derived.Deep.OwnRows
import Derived.OwnWalk
namespace Go.Proofs.Ytflhcnmbondpnaa
open Go.RowKit
/-- v is a list that reads L -/
def Ls (w : World) (v : Value) (L : List Int) : Prop := ∃ p c, v = .slice p L.length c ∧ Arr w p L ∧ L.length ≤ c
theorem Ls.kp {w w' : World} {v : Value} {L : List Int} (h : Ls w v L) (k : Kp w w') : Ls w' v L := by
  obtain ⟨p, c, e, hA, hc⟩ := h
  exact ⟨p, c, e, hA.grown k, hc⟩
theorem Own.ls {w : World} {base : Nat} {v : Value} {L : List Int} (h : Own w base v L) : Ls w v L := by
  obtain ⟨p, c, e, hA, hc⟩ := h.arr
  exact ⟨p, c, e, hA, hc⟩
theorem dlen (a K : Nat) (h : blen a ≤ 32 * K) : (dig a).length ≤ K := by
  have h1 := (blen_le_iff a (32 * K)).1 h
  rw [← pow32] at h1
  by_cases c : (dig a).length ≤ K
  · exact c
  · exfalso
    have := len32_lt a K (by unfold len32; omega)
    omega
end Go.Proofs.Ytflhcnmbondpnaa
