import Derived.Test.YtjkbapnndoldgaaKXSL
import Derived.Test.YtjkbapnndoldgaaKXTZ
import Derived.Deep.RegionWith
namespace Go.Proofs.Ytjkbapnndoldgaa
open Go.RowKit
theorem Kb.trans {g : Nat} {a b c : World} (h : Kb g a b) (k : Kb g b c) : Kb g a c :=
  ⟨k.1.trans h.1, k.2.1.trans h.2.1, k.2.2.1.trans h.2.2.1, Nat.le_trans h.2.2.2.1 k.2.2.2.1, fun j hj hg => (k.2.2.2.2 j (Nat.lt_of_lt_of_le hj h.2.2.2.1) hg).trans (h.2.2.2.2 j hj hg)⟩
def Two (w : World) (base : Nat) (l1 l2 : List Int) (e : Value) : Prop := ∃ p1 c1 p2 c2, e = .tuple #[.slice p1 l1.length c1, .slice p2 l2.length c2] ∧ Own w base (.slice p1 l1.length c1) l1 ∧ Own w base (.slice p2 l2.length c2) l2 ∧ ∀ g, p1 = some ⟨g, 0, none⟩ → p2 ≠ some ⟨g, 0, none⟩
theorem Own.above {w : World} {base n c b : Nat} {xs : List Int} (h : Own w base (.slice (some ⟨b, 0, none⟩) n c) xs) : base ≤ b ∧ b < w.heap.size := by
  rcases h.2 with h' | ⟨g, cap, cur, h1, h2, h3, h4⟩
  · have := h'.1
    cases this
  · cases h1
    refine ⟨h2, ?_⟩
    by_cases c : b < w.heap.size
    · exact c
    · rw [Array.getElem?_eq_none (by omega)] at h3
      cases h3
theorem Own.len {w : World} {base : Nat} {v : Value} {xs : List Int} (h : Own w base v xs) : ∃ p c, v = .slice p xs.length c ∧ (p = none ∨ ∃ b, p = some ⟨b, 0, none⟩) := by
  obtain ⟨p, c, e, _⟩ := h.arr
  refine ⟨p, c, e, ?_⟩
  subst e
  rcases h.2 with h' | ⟨g, cap, cur, h1, h2⟩
  · have h3 := h'.1
    injection h3 with h4
    exact Or.inl h4
  · cases h1
    exact Or.inr ⟨g, rfl⟩
end Go.Proofs.Ytjkbapnndoldgaa
