import Derived.Test.YtakcpoapokacgabDoorProg
import Derived.Test.YtakcpoapokacgabDoorA
import Derived.Test.YtakcpoapokacgabDoorA2
import Derived.Test.YtakcpoapokacgabDoorA3
import Derived.Test.YtakcpoapokacgabDoorA4
import Derived.Test.YtakcpoapokacgabDoorA5
import Derived.Test.YtakcpoapokacgabDoorA7
import Derived.Test.YtakcpoapokacgabDoorAQ
import Derived.Test.YtakcpoapokacgabDoorAR
import Derived.Test.YtakcpoapokacgabDoorMN
import Derived.Test.YtakcpoapokacgabDoorMV
import Derived.WalkKit
import Derived.ProofKit
import Derived.RowKit3
import Derived.WalkSpells
import Derived.StillTactics
import Derived.Deep.QuietTactic
import Derived.BigQuiet
import Derived.Below
import Derived.Deep.OwnRows
import Derived.OwnWalk
namespace Go.Proofs.YtakcpoapokacgabDoor
open Go.RowKit

def ePs (es : List (Option Addr × Nat × Nat)) (i : Nat) : Option Addr := (es.getD i (none, 0, 0)).1
def eNs (es : List (Option Addr × Nat × Nat)) (i : Nat) : Nat := (es.getD i (none, 0, 0)).2.1
def eCs (es : List (Option Addr × Nat × Nat)) (i : Nat) : Nat := (es.getD i (none, 0, 0)).2.2
theorem Lists.of {w : World} (es : List (Option Addr × Nat × Nat)) (ho : ∀ e ∈ es, ∃ base l, Own w base (.slice e.1 e.2.1 e.2.2) l) (hd : es.Pairwise (fun a b => ∀ g, a.1 = some ⟨g, 0, none⟩ → b.1 = some ⟨g, 0, none⟩ → False)) (hl : ∀ e ∈ es, e.2.1 ≤ 549755813888) (hn : es.length ≤ 1000) : Lists (w.alloc (.cells (es.map (fun e => Value.slice e.1 e.2.1 e.2.2)).toArray 22)) w.heap.size es.length (ePs es) (eNs es) (eCs es) := by
  have get : ∀ i (h : i < es.length), es.getD i (none, 0, 0) = es[i] := fun i h => by simp [List.getD, h]
  refine ⟨?_, ?_, ?_, ?_, hn⟩
  · have hr := World.rowIs_alloc w (es.map (fun e => Value.slice e.1 e.2.1 e.2.2)).toArray 22 (fun i => .slice (ePs es i) (eNs es i) (eCs es i)) (fun i hi => by
      have hi' : i < es.length := by simpa using hi
      simp [ePs, eNs, eCs, hi'])
    simpa using hr
  · intro i hi
    obtain ⟨base, l, h⟩ := ho es[i] (List.getElem_mem hi)
    unfold ePs eNs eCs
    rw [get i hi]
    rcases h.2 with ⟨h', _⟩ | ⟨g, cap, cur, h1, h2, h3, h4, h5, h6, h7⟩
    · injection h' with e1 e2 e3
      exact Or.inl ⟨e1, e2, e3⟩
    · injection h1 with e1 e2 e3
      have hlt : g < w.heap.size := by
        by_cases c : g < w.heap.size
        · exact c
        · rw [Array.getElem?_eq_none (by simpa using c)] at h3; cases h3
      have hrow := (row_of_cells (cap := cap) h3 (by omega)).of_block (Below.heap_alloc w (.cells (es.map (fun e => Value.slice e.1 e.2.1 e.2.2)).toArray 22) g hlt)
      exact Or.inr ⟨g, e1, by omega, by omega, _, by rw [e3]; exact hrow⟩
  · intro i j g hi hj h1 h2
    unfold ePs at h1 h2
    rw [get i hi] at h1
    rw [get j hj] at h2
    have hp := List.pairwise_iff_getElem.1 hd
    rcases Nat.lt_trichotomy i j with c | c | c
    · exact (hp i j hi hj c g h1 h2).elim
    · exact c
    · exact (hp j i hj hi c g h2 h1).elim
  · intro i hi
    unfold eNs
    rw [get i hi]
    exact hl _ (List.getElem_mem hi)
theorem X_of {es : List (Option Addr × Nat × Nat)} {lo T : Nat} (hT : T = es.length) (h : ∀ e ∈ es, ∀ g, e.1 = some ⟨g, 0, none⟩ → lo ≤ g) {g : Nat} (hx : Lists.X T (ePs es) g) : lo ≤ g := by
  obtain ⟨i, hi, hP⟩ := hx
  have hi' : i < es.length := by omega
  unfold ePs at hP
  rw [show es.getD i (none, 0, 0) = es[i] from by simp [List.getD, hi']] at hP
  exact h _ (List.getElem_mem hi') g hP
theorem Ks.row {B : Nat} {X : Nat → Prop} {w w' : World} (k : Ks B X w w') {g n : Nat} {xs : List Int} (h : Rw w g n xs) (hB : g < B) (hx : ¬ X g) : Rw w' g n xs := World.rowIs.of_block h (k.2.2.2.2 g hB hx)
theorem Ks.kp {B : Nat} {X : Nat → Prop} {a w w' : World} (k : Ks B X w w') (h : Kp a w) (hB : a.heap.size ≤ B) (hx : ∀ g, X g → a.heap.size ≤ g) : Kp a w' :=
  ⟨k.1.trans h.os, k.2.1.trans h.tape, k.2.2.1.trans h.output, Nat.le_trans h.size k.2.2.2.1, fun i hi => (k.2.2.2.2 i (by omega) (fun e => by have := hx i e; omega)).trans (Below.block h i hi)⟩
end Go.Proofs.YtakcpoapokacgabDoor
