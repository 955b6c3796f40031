import Derived.Test.YtcckdceijgdgoaaKPKu
import Derived.Test.YtcckdceijgdgoaaKPXg
import Derived.Deep.AppendLies
import Derived.Maps.AppendAt
namespace Go.Proofs.Ytcckdceijgdgoaa
open Go.RowKit
open Go
namespace B8
def Kb (g : Nat) (w w' : World) : Prop := w'.os = w.os ∧ w'.tape = w.tape ∧ w'.output = w.output ∧ w.heap.size ≤ w'.heap.size ∧ ∀ k, k < w.heap.size → k ≠ g → w'.heap[k]? = w.heap[k]?
theorem Kb.refl (g : Nat) (w : World) : Kb g w w := ⟨rfl, rfl, rfl, Nat.le_refl _, fun _ _ _ => rfl⟩
theorem Kb.setCell {g : Nat} {w w' : World} (h : Kb g w w') (j : Nat) (v : Value) : Kb g w (w'.setCell ⟨g, j, none⟩ v) := by
  obtain ⟨h1, h2, h3, h4, h5⟩ := h
  refine ⟨h1, h2, h3, by simpa [World.setCell] using h4, fun k hk hne => ?_⟩
  rw [← h5 k hk hne]
  simp only [World.setCell, Array.getElem?_modify]
  rw [if_neg (by omega)]
theorem Kb.kp {g : Nat} {a w w' : World} (h : Kb g w w') (k : Kp a w) (hg : a.heap.size ≤ g) : Kp a w' :=
  ⟨h.1.trans k.os, h.2.1.trans k.tape, h.2.2.1.trans k.output, Nat.le_trans k.size h.2.2.2.1, fun i hi => (h.2.2.2.2 i (Nat.lt_of_lt_of_le hi k.size) (by omega)).trans (Below.block k i hi)⟩
theorem Kb.arr {g : Nat} {w w' : World} (h : Kb g w w') {b off : Nat} {v : Value} (hne : b ≠ g) (hc : w.cell? ⟨b, off, none⟩ = some v) : w'.cell? ⟨b, off, none⟩ = some v := by
  have e := h.2.2.2.2 b (cell_lt hc) hne
  rw [World.cell?_of_block (w := w) (a := ⟨b, off, none⟩) e]; exact hc
theorem own_row {w : World} {base : Nat} {v : Value} {xs : List Int} (h : Own w base v xs) (hx : xs ≠ []) : ∃ L cap f, v = .slice (some ⟨L, 0, none⟩) xs.length cap ∧ base ≤ L ∧ w.rowIs L 5 cap f ∧ xs.length ≤ cap := by
  rcases h.2 with ⟨h1, h2⟩ | ⟨g, cap, cur, h1, h2, h3, h4, h5, h6, h7⟩
  · exact absurd (List.length_eq_zero_iff.1 h2) hx
  · refine ⟨g, cap, fun j => cur.getD j undef, h1, h2, ⟨cur, h3, by omega, fun i hi => ?_⟩, h4⟩
    have hi2 : i < cur.size := by omega
    simp [Array.getD, hi2]
theorem AG.kb {f : Nat → Value} {g : Nat} {w w' : World} {p : Option Addr} {ps : List (Nat × Nat)} (h : AG f w p ps) (k : Kb g w w') (hne : ∀ a, p = some a → a.block ≠ g) : AG f w' p ps := by
  rcases h with h | ⟨b, off, h1, h2⟩
  · exact Or.inl h
  · have hb := hne _ h1
    exact Or.inr ⟨b, off, h1, fun j hj => ⟨k.arr hb (h2 j hj).1, k.arr hb (h2 j hj).2⟩⟩
theorem rowIs_kb {g b n : Nat} {t : TypeId} {f : Nat → Value} {w w' : World} (h : w.rowIs b t n f) (k : Kb g w w') (hne : b ≠ g) : w'.rowIs b t n f := h.of_block (k.2.2.2.2 b h.lt hne)
theorem appP_run (w : World) (base : Nat) (v : Value) (qs : List (Nat × Nat)) (b off x y c : Nat) (hown : OG FLV 31 w base v qs) (e1 : w.cell? ⟨b, off, none⟩ = some (.float .f64 x)) (e2 : w.cell? ⟨b, off + 1, none⟩ = some (.float .f64 y)) (hb : qs.length + 1 ≤ 1048576) (hbase : base ≤ w.heap.size) :
    ∃ v' w', (Builtin.append_ #[50, 50] 50 #[v, .slice (some ⟨b, off, none⟩) 1 c]).run Try.prog w = .ok v' w' ∧ OG FLV 31 w' base v' (qs ++ [(x, y)]) ∧ w.grownBy w' v.ownBlock ∧ (v'.ownBlock = v.ownBlock ∨ v'.ownBlock = some w.heap.size) := by
  obtain ⟨i0, hi0, hi1, hi2, hi3⟩ := infF
  obtain ⟨v', w', hr, ho, hg, -, h5⟩ := run_append_own_at (P := Try.prog) w base 50 50 31 i0 (.agg #[.float .f64 0, .float .f64 0]) 2 16 Try.underlying50 hi0 hi1 hi2 hi3 rfl (by decide) v qs.length (flat FLV qs) hown ⟨b, off, none⟩ 1 c [.float .f64 x, .float .f64 y] rfl (fun j u hu => by
    match j, hu with
    | 0, hu => rw [addr_add, Nat.add_zero, e1]; simpa using hu
    | 1, hu => rw [addr_add, e2]; simpa using hu) (fun u hu => by simp at hu; rcases hu with rfl | rfl <;> rfl) (by unfold maxLen; omega) (by omega) hbase
  exact ⟨v', w', hr, OG.push ho, hg, h5⟩
theorem AG.far {f : Nat → Value} {w w' : World} {p : Option Addr} {ps : List (Nat × Nat)} {row : Option Nat} (h : AG f w p ps) (g : w.grownBy w' row) (hne : ∀ a, p = some a → row ≠ some a.block) : AG f w' p ps := by
  rcases h with h | ⟨b, off, h1, h2⟩
  · exact Or.inl h
  · have hb := hne _ h1
    exact Or.inr ⟨b, off, h1, fun j hj => ⟨(g.cell_far ⟨b, off + j * 2, none⟩ (cell_lt (h2 j hj).1) (fun e => hb e.symm)).trans (h2 j hj).1, (g.cell_far ⟨b, off + j * 2 + 1, none⟩ (cell_lt (h2 j hj).1) (fun e => hb e.symm)).trans (h2 j hj).2⟩⟩
end B8
end Go.Proofs.Ytcckdceijgdgoaa
