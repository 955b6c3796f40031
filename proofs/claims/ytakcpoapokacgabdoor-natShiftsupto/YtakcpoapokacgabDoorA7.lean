import Derived.Test.YtakcpoapokacgabDoorProg
import Derived.Test.YtakcpoapokacgabDoorA
import Derived.Test.YtakcpoapokacgabDoorA2
import Derived.Test.YtakcpoapokacgabDoorA4
import Derived.WalkKit
import Derived.ProofKit
import Derived.RowKit3
import Derived.WalkSpells
import Derived.StillTactics
import Derived.Deep.QuietTactic
import Derived.BigQuiet
import Derived.Below
import Derived.Deep.OwnRows
import Derived.OwnWalk
namespace Go.Proofs.YtakcpoapokacgabDoor
open Go.RowKit

/-- rows that bear a mark: block, room, how many words for sure, the mark -/
abbrev Mrk := Nat × Nat × Nat × Int
def Inv (w : World) (R : List Mrk) : Prop := (∀ b cp k m, (b, cp, k, m) ∈ R → ∃ f, w.rowIs b 37 cp f ∧ ∀ x, x < k → f x = .int .u32 m) ∧ (∀ b cp k m cp' k' m', (b, cp, k, m) ∈ R → (b, cp', k', m') ∈ R → m = m')
theorem Inv.lt {w : World} {R : List Mrk} (h : Inv w R) {b cp k : Nat} {m : Int} (hm : (b, cp, k, m) ∈ R) : b < w.heap.size := by
  obtain ⟨f, h1, _⟩ := h.1 b cp k m hm
  exact h1.lt
theorem Inv.of_blocks {w w' : World} {R : List Mrk} (h : Inv w R) (hb : ∀ b cp k m, (b, cp, k, m) ∈ R → w'.heap[b]? = w.heap[b]?) : Inv w' R :=
  ⟨fun b cp k m hm => by
    obtain ⟨f, h1, h2⟩ := h.1 b cp k m hm
    exact ⟨f, h1.of_block (hb b cp k m hm), h2⟩, h.2⟩
theorem Inv.alloc {w : World} {R : List Mrk} (h : Inv w R) (o : Obj) : Inv (w.alloc o) R := h.of_blocks (fun b _ _ _ hm => Below.heap_alloc w o b (h.lt hm))
theorem Inv.by {w w' : World} {R : List Mrk} {row : Option Nat} (h : Inv w R) (hg : w.grownBy w' row) (hr : ∀ b cp k m, (b, cp, k, m) ∈ R → some b ≠ row) : Inv w' R :=
  h.of_blocks (fun b cp k m hm => hg.block b (h.lt hm) (hr b cp k m hm))
theorem Inv.write {w : World} {R : List Mrk} (h : Inv w R) {a : Nat} {m : Int} (ha : ∀ cp k m', (a, cp, k, m') ∈ R → m' = m) (j : Nat) : Inv (w.setCell ⟨a, j, none⟩ (.int .u32 m)) R :=
  ⟨fun b cp k m' hm => by
    obtain ⟨f, h1, h2⟩ := h.1 b cp k m' hm
    by_cases c : b = a
    · subst c
      have e := ha cp k m' hm
      subst e
      refine ⟨_, h1.set j (.int .u32 m'), fun x hx => ?_⟩
      by_cases d : x = j
      · rw [if_pos d]
      · rw [if_neg d]; exact h2 x hx
    · exact ⟨f, h1.setOther (a := ⟨a, j, none⟩) c _, h2⟩, h.2⟩
theorem Inv.writes {R : List Mrk} {a : Nat} {m : Int} : ∀ (s j : Nat) (w : World), Inv w R → (∀ cp k m', (a, cp, k, m') ∈ R → m' = m) → Inv (w.setCells a j (List.replicate s (.int .u32 m))) R
  | 0, _, _, h, _ => h
  | s + 1, j, w, h, ha => by
    rw [List.replicate_succ]
    exact Inv.writes s (j + 1) _ (h.write ha j) ha
theorem Inv.cons {w : World} {R : List Mrk} (h : Inv w R) {b cp k : Nat} {m : Int} (hr : ∃ f, w.rowIs b 37 cp f ∧ ∀ x, x < k → f x = .int .u32 m) (hc : ∀ cp' k' m', (b, cp', k', m') ∈ R → m' = m) : Inv w ((b, cp, k, m) :: R) := by
  refine ⟨fun b' cp' k' m' hm => ?_, fun b' cp1 k1 m1 cp2 k2 m2 h1 h2 => ?_⟩
  · rcases List.mem_cons.1 hm with e | e
    · cases e; exact hr
    · exact h.1 _ _ _ _ e
  · rcases List.mem_cons.1 h1 with e1 | e1
    · cases e1
      rcases List.mem_cons.1 h2 with e2 | e2
      · cases e2; rfl
      · exact (hc _ _ _ e2).symm
    · rcases List.mem_cons.1 h2 with e2 | e2
      · cases e2; exact hc _ _ _ e1
      · exact h.2 _ _ _ _ _ _ _ e1 e2
/-- blocks from B on, and those that X names, may have changed; no other -/
def Ks (B : Nat) (X : Nat → Prop) (w w' : World) : Prop := w'.os = w.os ∧ w'.tape = w.tape ∧ w'.output = w.output ∧ w.heap.size ≤ w'.heap.size ∧ ∀ k, k < B → ¬ X k → w'.heap[k]? = w.heap[k]?
theorem Ks.refl (B : Nat) (X : Nat → Prop) (w : World) : Ks B X w w := ⟨rfl, rfl, rfl, Nat.le_refl _, fun _ _ _ => rfl⟩
theorem Ks.alloc {B : Nat} {X : Nat → Prop} {w w' : World} (h : Ks B X w w') (hB : B ≤ w.heap.size) (o : Obj) : Ks B X w (w'.alloc o) := by
  obtain ⟨h1, h2, h3, h4, h5⟩ := h
  refine ⟨h1, h2, h3, by show w.heap.size ≤ (w'.heap.push o).size; simp; omega, fun k hk hx => ?_⟩
  rw [Below.heap_alloc w' o k (by omega)]; exact h5 k hk hx
theorem Ks.write {B : Nat} {X : Nat → Prop} {w w' : World} (h : Ks B X w w') {a : Nat} (ha : B ≤ a ∨ X a) (j : Nat) (v : Value) : Ks B X w (w'.setCell ⟨a, j, none⟩ v) := by
  obtain ⟨h1, h2, h3, h4, h5⟩ := h
  refine ⟨h1, h2, h3, by simpa [World.setCell] using h4, fun k hk hx => ?_⟩
  have hne : k ≠ a := by rintro rfl; rcases ha with c | c; omega; exact hx c
  rw [← h5 k hk hx]
  simp only [World.setCell, Array.getElem?_modify]
  rw [if_neg (by omega)]
theorem Ks.writes {B : Nat} {X : Nat → Prop} {w : World} {a : Nat} (ha : B ≤ a ∨ X a) : ∀ (vs : List Value) (j : Nat) (w' : World), Ks B X w w' → Ks B X w (w'.setCells a j vs)
  | [], _, _, h => h
  | v :: vs, j, _, h => Ks.writes ha vs (j + 1) _ (h.write ha j v)
theorem Ks.by {B : Nat} {X : Nat → Prop} {w w' w'' : World} {row : Option Nat} (h : Ks B X w w') (hB : B ≤ w.heap.size) (hg : w'.grownBy w'' row) (hr : ∀ k, row = some k → B ≤ k) : Ks B X w w'' := by
  obtain ⟨h1, h2, h3, h4, h5⟩ := h
  refine ⟨hg.os.trans h1, hg.tape.trans h2, hg.output.trans h3, Nat.le_trans h4 hg.size, fun k hk hx => ?_⟩
  rw [hg.block k (by omega) (fun e => by have := hr k e.symm; omega)]
  exact h5 k hk hx
theorem Ks.drew {B : Nat} {X : Nat → Prop} {w w' : World} (h : Ks B X w w') : Ks B X w w'.drew := h
end Go.Proofs.YtakcpoapokacgabDoor
