import Derived.Test.YtipedmnipolmeaaKEA
namespace Go.Proofs.Ytipedmnipolmeaa
open Go.RowKit
namespace Fq

theorem gfroz {W w : World} (h : Grown W w) {a : Addr} (_hb : a.block < W.heap.size) : w.frozen? a = W.frozen? a := Below.frozen h _hb
def H2 (w : World) (b : Nat) (u v : Value) : Prop := w.cell? ⟨b, 0, none⟩ = some u ∧ w.cell? ⟨b, 1, none⟩ = some v ∧ w.frozen? ⟨b, 0, none⟩ = false ∧ w.frozen? ⟨b, 1, none⟩ = false
theorem H2.keep {W w : World} {b : Nat} {u v : Value} (h : H2 W b u v) (g : Grown W w) : H2 w b u v :=
  ⟨gkeep g h.1, gkeep g h.2.1, (gfroz g (cell_lt h.1)).trans h.2.2.1, (gfroz g (cell_lt h.1)).trans h.2.2.2⟩
theorem H2.lt {w : World} {b : Nat} {u v : Value} (h : H2 w b u v) : b < w.heap.size := cell_lt h.1
theorem H2.new (w : World) (u v : Value) (t : TypeId) : H2 (w.alloc (.cells #[u, v] t)) w.heap.size u v := by
  unfold H2; simp [go_sem]
theorem H2.drew {w : World} {b : Nat} {u v : Value} (h : H2 w b u v) : H2 w.drew b u v := h.keep (Grown.drew (Grown.refl _))
theorem H2.drewN {w : World} {b : Nat} {u v : Value} (h : H2 w b u v) (n : Nat) : H2 (w.drewN n) b u v := h.keep (gdrewN n (Grown.refl _))
end Fq
end Go.Proofs.Ytipedmnipolmeaa
