import Derived.Test.YtdhndnehicodnaaProg
import Derived.Test.YtdhndnehicodnaaKQM
import Derived.Test.YtdhndnehicodnaaKQA
import Derived.Test.YtdhndnehicodnaaKXQU
import Derived.Test.YtdhndnehicodnaaKEM
import Derived.Test.YtdhndnehicodnaaKEN
import Derived.Test.YtdhndnehicodnaaKEA
import Derived.WalkKit
import Derived.ProofKit
import Derived.RowKit3
import Derived.Deep.RegionHeld3
import Derived.WalkSpells
import Derived.StillTactics
import Derived.Laws.FloatArith
import Derived.Deep.QuietTactic
import Derived.BigQuiet
import Derived.Below
import Derived.Laws.BitsAllLaws
import Derived.Laws.Slices
import Derived.Laws.Bits64b
namespace Go.Proofs.Ytdhndnehicodnaa
open Go.RowKit
namespace Fq

theorem gfroz {W w : World} (h : Grown W w) {a : Addr} (_hb : a.block < W.heap.size) : w.frozen? a = W.frozen? a := Below.frozen h _hb
theorem gsize {W w : World} (h : Grown W w) : W.heap.size ≤ w.heap.size := Below.size h
/-- a block of two cells that may be written -/
def H2 (w : World) (b : Nat) (u v : Value) : Prop := w.cell? ⟨b, 0, none⟩ = some u ∧ w.cell? ⟨b, 1, none⟩ = some v ∧ w.frozen? ⟨b, 0, none⟩ = false ∧ w.frozen? ⟨b, 1, none⟩ = false
theorem H2.keep {W w : World} {b : Nat} {u v : Value} (h : H2 W b u v) (g : Grown W w) : H2 w b u v :=
  ⟨gkeep g h.1, gkeep g h.2.1, (gfroz g (cell_lt h.1)).trans h.2.2.1, (gfroz g (cell_lt h.1)).trans h.2.2.2⟩
theorem H2.lt {w : World} {b : Nat} {u v : Value} (h : H2 w b u v) : b < w.heap.size := cell_lt h.1
theorem H2.new (w : World) (u v : Value) (t : TypeId) : H2 (w.alloc (.cells #[u, v] t)) w.heap.size u v := by
  unfold H2; simp [go_sem]
theorem H2.past {w : World} {b : Nat} {u v : Value} (h : H2 w b u v) (c : Array Value) (t : TypeId) : H2 (w.alloc (.cells c t)) b u v := h.keep (Grown.alloc (Grown.refl _) c t)
theorem H2.drew {w : World} {b : Nat} {u v : Value} (h : H2 w b u v) : H2 w.drew b u v := h.keep (Grown.drew (Grown.refl _))
theorem H2.drewN {w : World} {b : Nat} {u v : Value} (h : H2 w b u v) (n : Nat) : H2 (w.drewN n) b u v := h.keep (gdrewN n (Grown.refl _))
theorem void_read (a b : Nat) : decide (rlo a b = 9218868437227405312 ∧ rhi a b = 18442240474082181120) = !(snd a b) := by
  by_cases c : snd a b = true
  · rw [c]
    have h : a ≠ 9218868437227405312 := by
      intro h; rw [h] at c; simp [snd] at c
    have : rlo a b ≠ 9218868437227405312 := by simp only [rlo, c, if_true, pla]; split <;> omega
    simp [this]
  · have c : snd a b = false := by simpa using c
    simp [rlo, rhi, c]
def nlo (a b : Nat) : Nat := if snd a b then pla a else 0
def nhi (a b : Nat) : Nat := if snd a b then pla b else 0
def ner (a b : Nat) : Int := if snd a b then 0 else 1
end Fq
end Go.Proofs.Ytdhndnehicodnaa
