import Derived.Test.YtolghomhigemgaaProg
import Derived.Test.YtolghomhigemgaaKXA0
import Derived.Test.YtolghomhigemgaaKXM
import Derived.Test.YtolghomhigemgaaKXT
import Derived.Test.YtolghomhigemgaaKXPR
import Derived.Test.YtolghomhigemgaaKLB
import Derived.Test.YtolghomhigemgaaKLN
import Derived.Test.YtolghomhigemgaaKXSL
import Derived.Test.YtolghomhigemgaaKTO
import Derived.Test.YtolghomhigemgaaKXLB
import Derived.Test.YtolghomhigemgaaKXTZ
import Derived.WalkKit
import Derived.ProofKit
import Derived.RowKit3
import Derived.WalkSpells
import Derived.StillTactics
import Derived.Deep.QuietTactic
import Derived.BigQuiet
import Derived.Below
import Derived.Deep.OwnRows
import Derived.OwnWalk
import Derived.Laws.BitsAllLaws
import Derived.Laws.Slices
import Derived.Laws.Bits64b
import Derived.Deep.RegionHeld3
namespace Go.Proofs.Ytolghomhigemgaa
open Go.RowKit
/-- two lists that a call answers, each owning its row, and apart -/
def Two (w : World) (base : Nat) (l1 l2 : List Int) (e : Value) : Prop := ∃ p1 c1 p2 c2, e = .tuple #[.slice p1 l1.length c1, .slice p2 l2.length c2] ∧ Own w base (.slice p1 l1.length c1) l1 ∧ Own w base (.slice p2 l2.length c2) l2 ∧ ∀ g, p1 = some ⟨g, 0, none⟩ → p2 ≠ some ⟨g, 0, none⟩
theorem Own.above {w : World} {base n c b : Nat} {xs : List Int} (h : Own w base (.slice (some ⟨b, 0, none⟩) n c) xs) : base ≤ b ∧ b < w.heap.size := by
  rcases h.2 with h' | ⟨g, cap, cur, h1, h2, h3, h4⟩
  · have := h'.1
    cases this
  · cases h1
    refine ⟨h2, ?_⟩
    by_cases c : b < w.heap.size
    · exact c
    · rw [Array.getElem?_eq_none (by omega)] at h3
      cases h3
theorem Own.len {w : World} {base : Nat} {v : Value} {xs : List Int} (h : Own w base v xs) : ∃ p c, v = .slice p xs.length c ∧ (p = none ∨ ∃ b, p = some ⟨b, 0, none⟩) := by
  obtain ⟨p, c, e, _⟩ := h.arr
  refine ⟨p, c, e, ?_⟩
  subst e
  rcases h.2 with h' | ⟨g, cap, cur, h1, h2⟩
  · have h3 := h'.1
    injection h3 with h4
    exact Or.inl h4
  · cases h1
    exact Or.inr ⟨g, rfl⟩
set_option maxRecDepth 20000 in
theorem sl32l' (g h n : Nat) (hh : h ≤ n) (w : World) : (Instr.slice 25 (.slice (some ⟨g, 0, none⟩) n n) none (some (.int .i64 (h : Int))) none).run Try.prog w = .ok (.slice (some ⟨g, 0, none⟩) h n) w := by
  rw [run_slice_h w 25 (some ⟨g, 0, none⟩) n n Try.underlying25 .i64 (h : Int) (by omega) (by omega)]
  have e : (sizeOf (Try.prog.elem 25)).run Try.prog w = .ok 1 w := by kernel_rfl
  rw [e]
  simp [Result.andThen, sliced, Addr.add_lit]
end Go.Proofs.Ytolghomhigemgaa
