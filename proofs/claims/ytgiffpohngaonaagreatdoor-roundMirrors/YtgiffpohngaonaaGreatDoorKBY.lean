import Derived.Test.YtgiffpohngaonaaGreatDoorProg
import Derived.Test.YtgiffpohngaonaaGreatDoorKXA0
import Derived.Test.YtgiffpohngaonaaGreatDoorKXM
import Derived.Test.YtgiffpohngaonaaGreatDoorKXT
import Derived.Test.YtgiffpohngaonaaGreatDoorKXPR
import Derived.Test.YtgiffpohngaonaaGreatDoorKLB
import Derived.Test.YtgiffpohngaonaaGreatDoorKLN
import Derived.Test.YtgiffpohngaonaaGreatDoorKXSL
import Derived.Test.YtgiffpohngaonaaGreatDoorKXNS
import Derived.Test.YtgiffpohngaonaaGreatDoorKXQ
import Derived.Test.YtgiffpohngaonaaGreatDoorKTO
import Derived.Test.YtgiffpohngaonaaGreatDoorKXLB
import Derived.Test.YtgiffpohngaonaaGreatDoorKXTZ
import Derived.Test.YtgiffpohngaonaaGreatDoorKXBW
import Derived.WalkKit
import Derived.ProofKit
import Derived.RowKit3
import Derived.WalkSpells
import Derived.StillTactics
import Derived.Deep.QuietTactic
import Derived.BigQuiet
import Derived.Below
import Derived.Deep.OwnRows
import Derived.OwnWalk
import Derived.Laws.BitsAllLaws
import Derived.Laws.Slices
import Derived.Laws.Bits64b
namespace Go.Proofs.YtgiffpohngaonaaGreatDoor
open Go.RowKit
/-- what By's loops keep of the other lists -/
def ByS (w wq : World) (pu pv : Option Addr) (us vs qs : List Int) (gq L : Nat) : Prop := Arr wq pu us ∧ Arr wq pv vs ∧ Rw wq gq L qs ∧ Kp w wq
theorem arr_kb {g : Nat} {w w' : World} {p : Option Addr} {xs : List Int} (h : Arr w p xs) (k : Kb g w w') (hne : ∀ b off, p = some ⟨b, off, none⟩ → b ≠ g) : Arr w' p xs := by
  rcases h with h | ⟨b, off, h1, h2⟩
  · exact Or.inl h
  · exact Or.inr ⟨b, off, h1, fun j hj => k.arr (hne b off h1) (h2 j hj)⟩
theorem ByS.kb {w wq w' : World} {pu pv : Option Addr} {us vs qs : List Int} {gq L g : Nat} (h : ByS w wq pu pv us vs qs gq L) (k : Kb g wq w') (h1 : ∀ b off, pu = some ⟨b, off, none⟩ → b ≠ g) (h2 : ∀ b off, pv = some ⟨b, off, none⟩ → b ≠ g) (h3 : gq ≠ g) (h4 : w.heap.size ≤ g) : ByS w w' pu pv us vs qs gq L :=
  ⟨arr_kb h.1 k h1, arr_kb h.2.1 k h2, h.2.2.1.kb k h3, k.kp h.2.2.2 h4⟩
theorem ByS.kp {w wq w' : World} {pu pv : Option Addr} {us vs qs : List Int} {gq L : Nat} (h : ByS w wq pu pv us vs qs gq L) (k : Kp wq w') : ByS w w' pu pv us vs qs gq L :=
  ⟨h.1.grown k, h.2.1.grown k, h.2.2.1.grown k, h.2.2.2.trans k⟩
end Go.Proofs.YtgiffpohngaonaaGreatDoor
