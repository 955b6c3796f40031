import Derived.Test.YtcckdceijgdgoaaKPKw
namespace Go.Proofs.Ytcckdceijgdgoaa
open Go.RowKit
open Go
namespace B8
def FLV (x : Nat) : Value := .float .f64 x
def ULV (x : Nat) : Value := .int .u64 (x : Int)
def flat (f : Nat → Value) : List (Nat × Nat) → List Value
  | [] => []
  | q :: r => f q.1 :: f q.2 :: flat f r
theorem flat_app (f : Nat → Value) : ∀ ps qs, flat f (ps ++ qs) = flat f ps ++ flat f qs
  | [], qs => rfl
  | q :: r, qs => by simp only [List.cons_append, flat, flat_app f r qs]
theorem flat_get (f : Nat → Value) : ∀ (ps : List (Nat × Nat)) (j : Nat), j < ps.length → (flat f ps)[j * 2]? = some (f (ps.getD j (0, 0)).1) ∧ (flat f ps)[j * 2 + 1]? = some (f (ps.getD j (0, 0)).2)
  | [], j, h => by simp at h
  | q :: r, 0, _ => by simp [flat]
  | q :: r, j + 1, h => by
    have ih := flat_get f r j (by simpa using h)
    rw [show (j + 1) * 2 = j * 2 + 1 + 1 from by omega]
    simp only [flat, List.getElem?_cons_succ, List.getD_cons_succ]
    exact ih
def AG (f : Nat → Value) (w : World) (p : Option Addr) (ps : List (Nat × Nat)) : Prop := ps = [] ∨ ∃ b off, p = some ⟨b, off, none⟩ ∧ ∀ j, j < ps.length → w.cell? ⟨b, off + j * 2, none⟩ = some (f (ps.getD j (0, 0)).1) ∧ w.cell? ⟨b, off + j * 2 + 1, none⟩ = some (f (ps.getD j (0, 0)).2)
theorem AG.grown {f : Nat → Value} {w w' : World} {p : Option Addr} {ps : List (Nat × Nat)} (h : AG f w p ps) (g : Kp w w') : AG f w' p ps := by
  rcases h with h | ⟨b, off, h1, h2⟩
  · exact Or.inl h
  · exact Or.inr ⟨b, off, h1, fun j hj => ⟨kkeep g (h2 j hj).1, kkeep g (h2 j hj).2⟩⟩
theorem AG.at {f : Nat → Value} {w : World} {p : Option Addr} {ps : List (Nat × Nat)} (h : AG f w p ps) {k : Nat} (hk : k < ps.length) : ∃ b off, p = some ⟨b, off, none⟩ ∧ ∀ j, j < ps.length → w.cell? ⟨b, off + j * 2, none⟩ = some (f (ps.getD j (0, 0)).1) ∧ w.cell? ⟨b, off + j * 2 + 1, none⟩ = some (f (ps.getD j (0, 0)).2) := by
  rcases h with h | h
  · subst h; simp at hk
  · exact h
def OG (f : Nat → Value) (T : TypeId) (w : World) (base : Nat) (v : Value) (ps : List (Nat × Nat)) : Prop := w.ownsRow base T 2 v ps.length (flat f ps)
theorem OG.nil (f : Nat → Value) (T : TypeId) (w : World) (base : Nat) : OG f T w base (.slice none 0 0) [] := World.ownsRow_nil _ _ _ _
theorem OG.arr {f : Nat → Value} {T : TypeId} {w : World} {base : Nat} {v : Value} {ps : List (Nat × Nat)} (h : OG f T w base v ps) : ∃ p c, v = .slice p ps.length c ∧ AG f w p ps ∧ ps.length ≤ c := by
  have hc : ∀ g, v.ownBlock = some g → ∀ j u, (flat f ps)[j]? = some u → w.cell? ((⟨g, 0, none⟩ : Addr).add j) = some u := fun g hg => World.ownsRow.cells h hg
  rcases h.2 with ⟨h1, h2⟩ | ⟨g, cap, cur, h1, h2, h3, h4, h5, h6, h7⟩
  · have : ps = [] := List.length_eq_zero_iff.1 h2
    subst this
    exact ⟨none, 0, h1, Or.inl rfl, Nat.le_refl _⟩
  · refine ⟨_, cap, h1, Or.inr ⟨g, 0, rfl, fun j hj => ?_⟩, h4⟩
    have e := flat_get f ps j hj
    have a := hc g (by rw [h1]; rfl) _ _ e.1
    have b := hc g (by rw [h1]; rfl) _ _ e.2
    rw [addr_add] at a b
    exact ⟨a, b⟩
theorem OG.kp {f : Nat → Value} {T : TypeId} {w w' : World} {base : Nat} {v : Value} {ps : List (Nat × Nat)} (h : OG f T w base v ps) (k : Kp w w') : OG f T w' base v ps := by
  refine ⟨h.1, ?_⟩
  rcases h.2 with h' | ⟨g, cap, cur, h1, h2, h3, h4, h5, h6, h7⟩
  · exact Or.inl h'
  · have hlt : g < w.heap.size := by
      by_cases c : g < w.heap.size
      · exact c
      · rw [Array.getElem?_eq_none (by simpa using c)] at h3; cases h3
    exact Or.inr ⟨g, cap, cur, h1, h2, by rw [Below.block k g hlt]; exact h3, h4, h5, h6, h7⟩
theorem OG.mono {f : Nat → Value} {T : TypeId} {w : World} {base base' : Nat} {v : Value} {ps : List (Nat × Nat)} (h : OG f T w base v ps) (hb : base' ≤ base) : OG f T w base' v ps := by
  refine ⟨h.1, ?_⟩
  rcases h.2 with h' | ⟨g, cap, cur, h1, h2, h3⟩
  · exact Or.inl h'
  · exact Or.inr ⟨g, cap, cur, h1, Nat.le_trans hb h2, h3⟩
theorem OG.push {f : Nat → Value} {T : TypeId} {w : World} {base : Nat} {v : Value} {ps : List (Nat × Nat)} {a b : Nat} (h : w.ownsRow base T 2 v (ps.length + 1) (flat f ps ++ [f a, f b])) : OG f T w base v (ps ++ [(a, b)]) := by
  unfold OG
  rw [flat_app, List.length_append]
  exact h
theorem infF0 : (Try.prog.info? 31).map (fun i => (i.zero, i.size, i.bytes)) = some (some (.agg #[.float .f64 0, .float .f64 0]), 2, 16) := by kernel_rfl
theorem infF : ∃ i, Try.prog.info? 31 = some i ∧ i.zero = some (.agg #[.float .f64 0, .float .f64 0]) ∧ i.size = 2 ∧ i.bytes = 16 := info_parts infF0
end B8
end Go.Proofs.Ytcckdceijgdgoaa
