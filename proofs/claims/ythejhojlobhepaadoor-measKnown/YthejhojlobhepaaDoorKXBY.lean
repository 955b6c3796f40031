import Derived.Test.YthejhojlobhepaaDoorProg
import Derived.Test.YthejhojlobhepaaDoorKXA0
import Derived.Test.YthejhojlobhepaaDoorKXM
import Derived.Test.YthejhojlobhepaaDoorKXT
import Derived.Test.YthejhojlobhepaaDoorKXPR
import Derived.Test.YthejhojlobhepaaDoorKLB
import Derived.Test.YthejhojlobhepaaDoorKLN
import Derived.Test.YthejhojlobhepaaDoorKXSL
import Derived.Test.YthejhojlobhepaaDoorKXNS
import Derived.Test.YthejhojlobhepaaDoorKTO
import Derived.Test.YthejhojlobhepaaDoorKHB
import Derived.Test.YthejhojlobhepaaDoorKXTZ
import Derived.WalkKit
import Derived.ProofKit
import Derived.RowKit3
import Derived.WalkSpells
import Derived.StillTactics
import Derived.Deep.QuietTactic
import Derived.BigQuiet
import Derived.Below
import Derived.Deep.OwnRows
import Derived.OwnWalk
import Derived.Laws.BitsAllLaws
import Derived.Laws.Slices
import Derived.Laws.Bits64b
import Derived.Deep.RegionHeld3
namespace Go.Proofs.YthejhojlobhepaaDoor
open Go.RowKit
/-- two lists that a call answers, each owning its row, and apart -/
def Two (w : World) (base : Nat) (l1 l2 : List Int) (e : Value) : Prop := ∃ p1 c1 p2 c2, e = .tuple #[.slice p1 l1.length c1, .slice p2 l2.length c2] ∧ Own w base (.slice p1 l1.length c1) l1 ∧ Own w base (.slice p2 l2.length c2) l2 ∧ ∀ g, p1 = some ⟨g, 0, none⟩ → p2 ≠ some ⟨g, 0, none⟩
theorem Own.above {w : World} {base n c b : Nat} {xs : List Int} (h : Own w base (.slice (some ⟨b, 0, none⟩) n c) xs) : base ≤ b ∧ b < w.heap.size := by
  rcases h.2 with h' | ⟨g, cap, cur, h1, h2, h3, h4⟩
  · have := h'.1
    cases this
  · cases h1
    refine ⟨h2, ?_⟩
    by_cases c : b < w.heap.size
    · exact c
    · rw [Array.getElem?_eq_none (by omega)] at h3
      cases h3
theorem Own.len {w : World} {base : Nat} {v : Value} {xs : List Int} (h : Own w base v xs) : ∃ p c, v = .slice p xs.length c ∧ (p = none ∨ ∃ b, p = some ⟨b, 0, none⟩) := by
  obtain ⟨p, c, e, _⟩ := h.arr
  refine ⟨p, c, e, ?_⟩
  subst e
  rcases h.2 with h' | ⟨g, cap, cur, h1, h2⟩
  · have h3 := h'.1
    injection h3 with h4
    exact Or.inl h4
  · cases h1
    exact Or.inr ⟨g, rfl⟩
set_option maxRecDepth 20000 in
theorem sl32l' (g h n : Nat) (hh : h ≤ n) (w : World) : (Instr.slice 46 (.slice (some ⟨g, 0, none⟩) n n) none (some (.int .i64 (h : Int))) none).run Tryd.prog w = .ok (.slice (some ⟨g, 0, none⟩) h n) w := by
  rw [run_slice_h w 46 (some ⟨g, 0, none⟩) n n Tryd.underlying46 .i64 (h : Int) (by omega) (by omega)]
  have e : (sizeOf (Tryd.prog.elem 46)).run Tryd.prog w = .ok 1 w := by kernel_rfl
  rw [e]
  simp [Result.andThen, sliced, Addr.add_lit]
/-- what By's loops keep of the other lists -/
def ByS (w wq : World) (pu pv : Option Addr) (us vs qs : List Int) (gq L : Nat) : Prop := Arr wq pu us ∧ Arr wq pv vs ∧ Rw wq gq L qs ∧ Kp w wq
theorem arr_kb {g : Nat} {w w' : World} {p : Option Addr} {xs : List Int} (h : Arr w p xs) (k : Kb g w w') (hne : ∀ b off, p = some ⟨b, off, none⟩ → b ≠ g) : Arr w' p xs := by
  rcases h with h | ⟨b, off, h1, h2⟩
  · exact Or.inl h
  · exact Or.inr ⟨b, off, h1, fun j hj => k.arr (hne b off h1) (h2 j hj)⟩
theorem ByS.kb {w wq w' : World} {pu pv : Option Addr} {us vs qs : List Int} {gq L g : Nat} (h : ByS w wq pu pv us vs qs gq L) (k : Kb g wq w') (h1 : ∀ b off, pu = some ⟨b, off, none⟩ → b ≠ g) (h2 : ∀ b off, pv = some ⟨b, off, none⟩ → b ≠ g) (h3 : gq ≠ g) (h4 : w.heap.size ≤ g) : ByS w w' pu pv us vs qs gq L :=
  ⟨arr_kb h.1 k h1, arr_kb h.2.1 k h2, h.2.2.1.kb k h3, k.kp h.2.2.2 h4⟩
theorem ByS.kp {w wq w' : World} {pu pv : Option Addr} {us vs qs : List Int} {gq L : Nat} (h : ByS w wq pu pv us vs qs gq L) (k : Kp wq w') : ByS w w' pu pv us vs qs gq L :=
  ⟨h.1.grown k, h.2.1.grown k, h.2.2.1.grown k, h.2.2.2.trans k⟩
end Go.Proofs.YthejhojlobhepaaDoor
