import Derived.Test.YtcckdceijgdgoaaKEA
namespace Go.Proofs.Ytcckdceijgdgoaa
open Go.RowKit
namespace Fq

theorem gfroz {W w : World} (h : Grown W w) {a : Addr} (_hb : a.block < W.heap.size) : w.frozen? a = W.frozen? a := Below.frozen h _hb
def H2 (w : World) (b : Nat) (u v : Value) : Prop := w.cell? ⟨b, 0, none⟩ = some u ∧ w.cell? ⟨b, 1, none⟩ = some v ∧ w.frozen? ⟨b, 0, none⟩ = false ∧ w.frozen? ⟨b, 1, none⟩ = false
theorem H2.keep {W w : World} {b : Nat} {u v : Value} (h : H2 W b u v) (g : Grown W w) : H2 w b u v :=
  ⟨gkeep g h.1, gkeep g h.2.1, (gfroz g (cell_lt h.1)).trans h.2.2.1, (gfroz g (cell_lt h.1)).trans h.2.2.2⟩
theorem H2.lt {w : World} {b : Nat} {u v : Value} (h : H2 w b u v) : b < w.heap.size := cell_lt h.1
theorem H2.new (w : World) (u v : Value) (t : TypeId) : H2 (w.alloc (.cells #[u, v] t)) w.heap.size u v := by
  unfold H2; simp [go_sem]
theorem H2.past {w : World} {b : Nat} {u v : Value} (h : H2 w b u v) (c : Array Value) (t : TypeId) : H2 (w.alloc (.cells c t)) b u v := h.keep (Grown.alloc (Grown.refl _) c t)
theorem H2.drew {w : World} {b : Nat} {u v : Value} (h : H2 w b u v) : H2 w.drew b u v := h.keep (Grown.drew (Grown.refl _))
theorem H2.drewN {w : World} {b : Nat} {u v : Value} (h : H2 w b u v) (n : Nat) : H2 (w.drewN n) b u v := h.keep (gdrewN n (Grown.refl _))
end Fq
namespace Fq

theorem H2.two (w : World) (a b c d : Value) (s t : TypeId) : H2 (((w.alloc (.cells #[a, b] s)).drew).alloc (.cells #[c, d] t)) (w.heap.size + 1) c d := by
  unfold H2; simp [go_sem]
theorem H2.put {w : World} {b : Nat} {u v : Value} (h : H2 w b u v) (u' v' : Value) : H2 ((w.setCell ⟨b, 0, none⟩ u').setCell ⟨b, 1, none⟩ v') b u' v' := by
  obtain ⟨h0, h1, h2, h3⟩ := h
  unfold H2; simp [go_sem, h0, h1, h2, h3]
theorem H2.far {w : World} {b : Nat} {u v : Value} (h : H2 w b u v) {c : Nat} (hne : c ≠ b) (u' v' : Value) : H2 ((w.setCell ⟨c, 0, none⟩ u').setCell ⟨c, 1, none⟩ v') b u v := by
  obtain ⟨h0, h1, h2, h3⟩ := h
  refine ⟨?_, ?_, ?_, ?_⟩
  · rw [World.cell?_setCell_far _ _ _ _ (by simpa using hne), World.cell?_setCell_far _ _ _ _ (by simpa using hne)]; exact h0
  · rw [World.cell?_setCell_far _ _ _ _ (by simpa using hne), World.cell?_setCell_far _ _ _ _ (by simpa using hne)]; exact h1
  · simp only [World.frozen?_setCell]; exact h2
  · simp only [World.frozen?_setCell]; exact h3
end Fq
end Go.Proofs.Ytcckdceijgdgoaa
