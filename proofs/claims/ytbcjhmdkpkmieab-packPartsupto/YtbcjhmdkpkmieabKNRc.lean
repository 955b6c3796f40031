import Derived.Test.YtbcjhmdkpkmieabKNRa
import Derived.Deep.CutRange
import Derived.Deep.DeepCutAuto
namespace Go.Proofs.Ytbcjhmdkpkmieab
open Go.RowKit

def H6 (w : World) (B : Nat) (a b c d e f : Value) : Prop := Fq.H2 w B a b ∧ Fq.H2 w (B + 1) c d ∧ Fq.H2 w (B + 2) e f
theorem H6.keep {W w : World} {B : Nat} {a b c d e f : Value} (h : H6 W B a b c d e f) (g : Kp W w) : H6 w B a b c d e f := ⟨Fq.H2.keep h.1 g, Fq.H2.keep h.2.1 g, Fq.H2.keep h.2.2 g⟩
theorem H6.new (w : World) (a b c d e f : Value) (s t u : TypeId) : H6 (((w.alloc (.cells #[a, b] s)).alloc (.cells #[c, d] t)).alloc (.cells #[e, f] u)) w.heap.size a b c d e f := by
  refine ⟨?_, ?_, ?_⟩ <;> (unfold Fq.H2; simp [go_sem])
theorem H6.put {w : World} {B : Nat} {a b c d e f : Value} (h : H6 w B a b c d e f) (a' b' c' d' : Value) : H6 ((((w.setCell ⟨B, 0, none⟩ a').setCell ⟨B, 1, none⟩ b').setCell ⟨B + 1, 0, none⟩ c').setCell ⟨B + 1, 1, none⟩ d') B a' b' c' d' e f := by
  refine ⟨?_, ?_, ?_⟩
  · exact Fq.H2.far (Fq.H2.put h.1 a' b') (by omega) c' d'
  · exact Fq.H2.put (Fq.H2.far h.2.1 (by omega) a' b') c' d'
  · exact Fq.H2.far (Fq.H2.far h.2.2 (by omega) a' b') (by omega) c' d'
end Go.Proofs.Ytbcjhmdkpkmieab
