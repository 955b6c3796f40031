import Derived.Test.YtakcpoapokacgabDoorProg
import Derived.Test.YtakcpoapokacgabDoorA
import Derived.Test.YtakcpoapokacgabDoorA2
import Derived.Test.YtakcpoapokacgabDoorA4
import Derived.Test.YtakcpoapokacgabDoorA7
import Derived.WalkKit
import Derived.ProofKit
import Derived.RowKit3
import Derived.WalkSpells
import Derived.StillTactics
import Derived.Deep.QuietTactic
import Derived.BigQuiet
import Derived.Below
import Derived.Deep.OwnRows
import Derived.OwnWalk
namespace Go.Proofs.YtakcpoapokacgabDoor
open Go.RowKit

/-- what 'apart' asks of the lists -/
structure Lists (w : World) (B0 T : Nat) (P : Nat → Option Addr) (n c : Nat → Nat) : Prop where
  row : w.rowIs B0 22 T (fun i => .slice (P i) (n i) (c i))
  elt : ∀ i, i < T → (P i = none ∧ n i = 0 ∧ c i = 0) ∨ ∃ g, P i = some ⟨g, 0, none⟩ ∧ n i ≤ c i ∧ g ≠ B0 ∧ ∃ f, w.rowIs g 37 (c i) f
  two : ∀ i j g, i < T → j < T → P i = some ⟨g, 0, none⟩ → P j = some ⟨g, 0, none⟩ → i = j
  len : ∀ i, i < T → n i ≤ 549755813888
  few : T ≤ 1000
def Lists.X (T : Nat) (P : Nat → Option Addr) (k : Nat) : Prop := ∃ i, i < T ∧ P i = some ⟨k, 0, none⟩
def Lists.R0 (T : Nat) (P : Nat → Option Addr) (c : Nat → Nat) : List Mrk := (List.range T).filterMap (fun t => (P t).map (fun a => (a.block, c t, 0, 1000 + (t : Int))))
structure Lv (w wr : World) (T : Nat) (P : Nat → Option Addr) (c : Nat → Nat) (R : List Mrk) : Prop where
  inv : Inv wr R
  all : ∀ t g, t < T → P t = some ⟨g, 0, none⟩ → (g, c t, 0, 1000 + (t : Int)) ∈ R
  own : ∀ b cp k m, (b, cp, k, m) ∈ R → w.heap.size ≤ b ∨ Lists.X T P b
  ks : Ks w.heap.size (Lists.X T P) w wr
theorem Lists.start {w : World} {B0 T : Nat} {P : Nat → Option Addr} {n c : Nat → Nat} (h : Lists w B0 T P n c) : Lv w w T P c (Lists.R0 T P c) := by
  have hm : ∀ b cp k m, (b, cp, k, m) ∈ Lists.R0 T P c → ∃ t, t < T ∧ P t = some ⟨b, 0, none⟩ ∧ cp = c t ∧ k = 0 ∧ m = 1000 + (t : Int) := by
    intro b cp k m hm
    unfold Lists.R0 at hm
    obtain ⟨t, ht, he⟩ := List.mem_filterMap.1 hm
    have htT : t < T := List.mem_range.1 ht
    rcases h.elt t htT with ⟨h1, _, _⟩ | ⟨g, h1, _⟩
    · rw [h1] at he; cases he
    · rw [h1] at he
      simp only [Option.map_some, Option.some.injEq, Prod.mk.injEq] at he
      obtain ⟨rfl, rfl, rfl, rfl⟩ := he
      exact ⟨t, htT, h1, rfl, rfl, rfl⟩
  refine ⟨⟨fun b cp k m hh => ?_, fun b cp k m cp' k' m' h1 h2 => ?_⟩, fun t g ht hg => ?_, fun b cp k m hh => ?_, Ks.refl _ _ _⟩
  · obtain ⟨t, ht, hP, rfl, rfl, rfl⟩ := hm b cp k m hh
    rcases h.elt t ht with ⟨h1, _, _⟩ | ⟨g, h1, _, _, f, hf⟩
    · rw [h1] at hP; cases hP
    · rw [hP] at h1; cases h1
      exact ⟨f, hf, fun x hx => by omega⟩
  · obtain ⟨t, ht, hP, _, _, rfl⟩ := hm b cp k m h1
    obtain ⟨t', ht', hP', _, _, rfl⟩ := hm b cp' k' m' h2
    rw [h.two t t' b ht ht' hP hP']
  · unfold Lists.R0
    exact List.mem_filterMap.2 ⟨t, List.mem_range.2 ht, by rw [hg]; rfl⟩
  · obtain ⟨t, ht, hP, _⟩ := hm b cp k m hh
    exact Or.inr ⟨t, ht, hP⟩
theorem Lists.b0 {w wr : World} {B0 T : Nat} {P : Nat → Option Addr} {n c : Nat → Nat} (h : Lists w B0 T P n c) (k : Ks w.heap.size (Lists.X T P) w wr) : wr.rowIs B0 22 T (fun i => .slice (P i) (n i) (c i)) :=
  h.row.of_block (k.2.2.2.2 B0 h.row.lt (by
    rintro ⟨i, hi, hP⟩
    rcases h.elt i hi with ⟨h1, _, _⟩ | ⟨g, h1, _, hne, _⟩
    · rw [h1] at hP; cases hP
    · rw [h1] at hP; cases hP; exact hne rfl))
/-- a mark is written into list i's block -/
theorem Lv.write {w wr : World} {T : Nat} {P : Nat → Option Addr} {c : Nat → Nat} {R : List Mrk} (h : Lv w wr T P c R) {i g : Nat} (hi : i < T) (hP : P i = some ⟨g, 0, none⟩) (j : Nat) : Lv w (wr.setCell ⟨g, j, none⟩ (.int .u32 (1000 + (i : Int)))) T P c R :=
  ⟨h.inv.write (fun cp k m' hm => h.inv.2 g cp k m' _ _ _ hm (h.all i g hi hP)) j, h.all, h.own, h.ks.write (Or.inr ⟨i, hi, hP⟩) j _⟩
end Go.Proofs.YtakcpoapokacgabDoor
