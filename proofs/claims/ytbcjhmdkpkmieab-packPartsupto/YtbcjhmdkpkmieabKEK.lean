import Derived.Test.YtbcjhmdkpkmieabKEH
namespace Go.Proofs.Ytbcjhmdkpkmieab
open Go.RowKit
namespace Fq

theorem H2.two (w : World) (a b c d : Value) (s t : TypeId) : H2 (((w.alloc (.cells #[a, b] s)).drew).alloc (.cells #[c, d] t)) (w.heap.size + 1) c d := by
  unfold H2; simp [go_sem]
theorem H2.put {w : World} {b : Nat} {u v : Value} (h : H2 w b u v) (u' v' : Value) : H2 ((w.setCell ⟨b, 0, none⟩ u').setCell ⟨b, 1, none⟩ v') b u' v' := by
  obtain ⟨h0, h1, h2, h3⟩ := h
  unfold H2; simp [go_sem, h0, h1, h2, h3]
theorem H2.far {w : World} {b : Nat} {u v : Value} (h : H2 w b u v) {c : Nat} (hne : c ≠ b) (u' v' : Value) : H2 ((w.setCell ⟨c, 0, none⟩ u').setCell ⟨c, 1, none⟩ v') b u v := by
  obtain ⟨h0, h1, h2, h3⟩ := h
  refine ⟨?_, ?_, ?_, ?_⟩
  · rw [World.cell?_setCell_far _ _ _ _ (by simpa using hne), World.cell?_setCell_far _ _ _ _ (by simpa using hne)]; exact h0
  · rw [World.cell?_setCell_far _ _ _ _ (by simpa using hne), World.cell?_setCell_far _ _ _ _ (by simpa using hne)]; exact h1
  · simp only [World.frozen?_setCell]; exact h2
  · simp only [World.frozen?_setCell]; exact h3
end Fq
end Go.Proofs.Ytbcjhmdkpkmieab
