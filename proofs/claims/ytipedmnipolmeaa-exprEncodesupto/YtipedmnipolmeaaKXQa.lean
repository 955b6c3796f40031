import Derived.Test.YtipedmnipolmeaaKEO
import Derived.Test.YtipedmnipolmeaaKXPc
import Derived.Deep.CutRange
import Derived.Deep.DeepCutAuto
import Derived.OneCell
namespace Go.Proofs.Ytipedmnipolmeaa
open Go.RowKit
open Go
namespace X7
set_option linter.unusedVariables false
theorem addr_add (b off j : Nat) : (⟨b, off, none⟩ : Addr).add j = ⟨b, off + j, none⟩ := by
  unfold Addr.add
  by_cases c : j = 0
  · subst c; simp
  · simp [c]
def FLV (x : Nat) : Value := .float .f64 x
def ULV (x : Nat) : Value := .int .u64 (x : Int)
def flat (f : Nat → Value) : List (Nat × Nat) → List Value
  | [] => []
  | q :: r => f q.1 :: f q.2 :: flat f r
theorem flat_len (f : Nat → Value) : ∀ ps, (flat f ps).length = ps.length * 2
  | [] => rfl
  | q :: r => by simp only [flat, List.length_cons, flat_len f r]; omega
theorem flat_app (f : Nat → Value) : ∀ ps qs, flat f (ps ++ qs) = flat f ps ++ flat f qs
  | [], qs => rfl
  | q :: r, qs => by simp only [List.cons_append, flat, flat_app f r qs]
theorem flat_get (f : Nat → Value) : ∀ (ps : List (Nat × Nat)) (j : Nat), j < ps.length → (flat f ps)[j * 2]? = some (f (ps.getD j (0, 0)).1) ∧ (flat f ps)[j * 2 + 1]? = some (f (ps.getD j (0, 0)).2)
  | [], j, h => by simp at h
  | q :: r, 0, _ => by simp [flat]
  | q :: r, j + 1, h => by
    have ih := flat_get f r j (by simpa using h)
    rw [show (j + 1) * 2 = j * 2 + 1 + 1 from by omega]
    simp only [flat, List.getElem?_cons_succ, List.getD_cons_succ]
    exact ih
def AG (f : Nat → Value) (w : World) (p : Option Addr) (ps : List (Nat × Nat)) : Prop := ps = [] ∨ ∃ b off, p = some ⟨b, off, none⟩ ∧ ∀ j, j < ps.length → w.cell? ⟨b, off + j * 2, none⟩ = some (f (ps.getD j (0, 0)).1) ∧ w.cell? ⟨b, off + j * 2 + 1, none⟩ = some (f (ps.getD j (0, 0)).2)
theorem AG.grown {f : Nat → Value} {w w' : World} {p : Option Addr} {ps : List (Nat × Nat)} (h : AG f w p ps) (g : Kp w w') : AG f w' p ps := by
  rcases h with h | ⟨b, off, h1, h2⟩
  · exact Or.inl h
  · exact Or.inr ⟨b, off, h1, fun j hj => ⟨kkeep g (h2 j hj).1, kkeep g (h2 j hj).2⟩⟩
theorem AG.at {f : Nat → Value} {w : World} {p : Option Addr} {ps : List (Nat × Nat)} (h : AG f w p ps) {k : Nat} (hk : k < ps.length) : ∃ b off, p = some ⟨b, off, none⟩ ∧ ∀ j, j < ps.length → w.cell? ⟨b, off + j * 2, none⟩ = some (f (ps.getD j (0, 0)).1) ∧ w.cell? ⟨b, off + j * 2 + 1, none⟩ = some (f (ps.getD j (0, 0)).2) := by
  rcases h with h | h
  · subst h; simp at hk
  · exact h
def OG (f : Nat → Value) (T : TypeId) (w : World) (base : Nat) (v : Value) (ps : List (Nat × Nat)) : Prop := w.ownsRow base T 2 v ps.length (flat f ps)
theorem OG.nil (f : Nat → Value) (T : TypeId) (w : World) (base : Nat) : OG f T w base (.slice none 0 0) [] := World.ownsRow_nil _ _ _ _
theorem OG.arr {f : Nat → Value} {T : TypeId} {w : World} {base : Nat} {v : Value} {ps : List (Nat × Nat)} (h : OG f T w base v ps) : ∃ p c, v = .slice p ps.length c ∧ AG f w p ps ∧ ps.length ≤ c := by
  have hc : ∀ g, v.ownBlock = some g → ∀ j u, (flat f ps)[j]? = some u → w.cell? ((⟨g, 0, none⟩ : Addr).add j) = some u := fun g hg => World.ownsRow.cells h hg
  rcases h.2 with ⟨h1, h2⟩ | ⟨g, cap, cur, h1, h2, h3, h4, h5, h6, h7⟩
  · have : ps = [] := List.length_eq_zero_iff.1 h2
    subst this
    exact ⟨none, 0, h1, Or.inl rfl, Nat.le_refl _⟩
  · refine ⟨_, cap, h1, Or.inr ⟨g, 0, rfl, fun j hj => ?_⟩, h4⟩
    have e := flat_get f ps j hj
    have a := hc g (by rw [h1]; rfl) _ _ e.1
    have b := hc g (by rw [h1]; rfl) _ _ e.2
    rw [addr_add] at a b
    exact ⟨a, b⟩
theorem OG.kp {f : Nat → Value} {T : TypeId} {w w' : World} {base : Nat} {v : Value} {ps : List (Nat × Nat)} (h : OG f T w base v ps) (k : Kp w w') : OG f T w' base v ps := by
  refine ⟨h.1, ?_⟩
  rcases h.2 with h' | ⟨g, cap, cur, h1, h2, h3, h4, h5, h6, h7⟩
  · exact Or.inl h'
  · have hlt : g < w.heap.size := by
      by_cases c : g < w.heap.size
      · exact c
      · rw [Array.getElem?_eq_none (by simpa using c)] at h3; cases h3
    exact Or.inr ⟨g, cap, cur, h1, h2, by rw [Below.block k g hlt]; exact h3, h4, h5, h6, h7⟩
theorem OG.mono {f : Nat → Value} {T : TypeId} {w : World} {base base' : Nat} {v : Value} {ps : List (Nat × Nat)} (h : OG f T w base v ps) (hb : base' ≤ base) : OG f T w base' v ps := by
  refine ⟨h.1, ?_⟩
  rcases h.2 with h' | ⟨g, cap, cur, h1, h2, h3⟩
  · exact Or.inl h'
  · exact Or.inr ⟨g, cap, cur, h1, Nat.le_trans hb h2, h3⟩
theorem OG.push {f : Nat → Value} {T : TypeId} {w : World} {base : Nat} {v : Value} {ps : List (Nat × Nat)} {a b : Nat} (h : w.ownsRow base T 2 v (ps.length + 1) (flat f ps ++ [f a, f b])) : OG f T w base v (ps ++ [(a, b)]) := by
  unfold OG
  rw [flat_app, List.length_append]
  exact h
theorem og_block {f : Nat → Value} {T : TypeId} {w : World} {base : Nat} {v : Value} {ps : List (Nat × Nat)} (h : OG f T w base v ps) : ∀ k, v.ownBlock = some k → base ≤ k := fun k hk => (World.ownsRow.lt h k hk).1
theorem take_push2 (ps : List (Nat × Nat)) (k : Nat) (h : k < ps.length) : ps.take k ++ [((ps.getD k (0, 0)).1, (ps.getD k (0, 0)).2)] = ps.take (k + 1) := by
  have e : ps.getD k (0, 0) = ps[k] := by simp [List.getD, h]
  rw [List.take_add_one, List.getElem?_eq_getElem h, e]
  rfl
abbrev I5 := Int × Int × Int × Int × Int
def D5 : I5 := (0, 0, 0, 0, 0)
def flat5 : List I5 → List Value
  | [] => []
  | q :: r => .int .i64 q.1 :: .int .i64 q.2.1 :: .int .i64 q.2.2.1 :: .int .i64 q.2.2.2.1 :: .int .i64 q.2.2.2.2 :: flat5 r
theorem flat5_len : ∀ ps, (flat5 ps).length = ps.length * 5
  | [] => rfl
  | q :: r => by simp only [flat5, List.length_cons, flat5_len r]; omega
theorem flat5_app : ∀ ps qs, flat5 (ps ++ qs) = flat5 ps ++ flat5 qs
  | [], qs => rfl
  | q :: r, qs => by simp only [List.cons_append, flat5, flat5_app r qs]
theorem flat5_get : ∀ (L : List I5) (j : Nat), j < L.length → (flat5 L)[j * 5]? = some (.int .i64 (L.getD j D5).1) ∧ (flat5 L)[j * 5 + 1]? = some (.int .i64 (L.getD j D5).2.1) ∧ (flat5 L)[j * 5 + 2]? = some (.int .i64 (L.getD j D5).2.2.1) ∧ (flat5 L)[j * 5 + 3]? = some (.int .i64 (L.getD j D5).2.2.2.1) ∧ (flat5 L)[j * 5 + 4]? = some (.int .i64 (L.getD j D5).2.2.2.2)
  | [], j, h => by simp at h
  | q :: r, 0, _ => by simp [flat5]
  | q :: r, j + 1, h => by
    have ih := flat5_get r j (by simpa using h)
    rw [show (j + 1) * 5 = j * 5 + 1 + 1 + 1 + 1 + 1 from by omega]
    simp only [flat5, List.getD_cons_succ, show ∀ k, j * 5 + 1 + 1 + 1 + 1 + 1 + k = (j * 5 + k) + 1 + 1 + 1 + 1 + 1 from fun k => by omega, List.getElem?_cons_succ]
    exact ih
def AI (w : World) (p : Option Addr) (L : List I5) : Prop := L = [] ∨ ∃ b off, p = some ⟨b, off, none⟩ ∧ ∀ j, j < L.length → w.cell? ⟨b, off + j * 5, none⟩ = some (.int .i64 (L.getD j D5).1) ∧ w.cell? ⟨b, off + j * 5 + 1, none⟩ = some (.int .i64 (L.getD j D5).2.1) ∧ w.cell? ⟨b, off + j * 5 + 2, none⟩ = some (.int .i64 (L.getD j D5).2.2.1) ∧ w.cell? ⟨b, off + j * 5 + 3, none⟩ = some (.int .i64 (L.getD j D5).2.2.2.1) ∧ w.cell? ⟨b, off + j * 5 + 4, none⟩ = some (.int .i64 (L.getD j D5).2.2.2.2)
theorem AI.grown {w w' : World} {p : Option Addr} {L : List I5} (h : AI w p L) (g : Kp w w') : AI w' p L := by
  rcases h with h | ⟨b, off, h1, h2⟩
  · exact Or.inl h
  · refine Or.inr ⟨b, off, h1, fun j hj => ?_⟩
    obtain ⟨a0, a1, a2, a3, a4⟩ := h2 j hj
    exact ⟨kkeep g a0, kkeep g a1, kkeep g a2, kkeep g a3, kkeep g a4⟩
theorem AI.at {w : World} {p : Option Addr} {L : List I5} (h : AI w p L) {k : Nat} (hk : k < L.length) : ∃ b off, p = some ⟨b, off, none⟩ ∧ ∀ j, j < L.length → w.cell? ⟨b, off + j * 5, none⟩ = some (.int .i64 (L.getD j D5).1) ∧ w.cell? ⟨b, off + j * 5 + 1, none⟩ = some (.int .i64 (L.getD j D5).2.1) ∧ w.cell? ⟨b, off + j * 5 + 2, none⟩ = some (.int .i64 (L.getD j D5).2.2.1) ∧ w.cell? ⟨b, off + j * 5 + 3, none⟩ = some (.int .i64 (L.getD j D5).2.2.2.1) ∧ w.cell? ⟨b, off + j * 5 + 4, none⟩ = some (.int .i64 (L.getD j D5).2.2.2.2) := by
  rcases h with h | h
  · subst h; simp at hk
  · exact h
def OI (T : TypeId) (w : World) (base : Nat) (v : Value) (L : List I5) : Prop := w.ownsRow base T 5 v L.length (flat5 L)
theorem OI.nil (T : TypeId) (w : World) (base : Nat) : OI T w base (.slice none 0 0) [] := World.ownsRow_nil _ _ _ _
theorem OI.arr {T : TypeId} {w : World} {base : Nat} {v : Value} {L : List I5} (h : OI T w base v L) : ∃ p c, v = .slice p L.length c ∧ AI w p L ∧ L.length ≤ c ∧ (L ≠ [] → ∃ b, p = some ⟨b, 0, none⟩ ∧ base ≤ b) := by
  have hc : ∀ g, v.ownBlock = some g → ∀ j u, (flat5 L)[j]? = some u → w.cell? ((⟨g, 0, none⟩ : Addr).add j) = some u := fun g hg => World.ownsRow.cells h hg
  rcases h.2 with ⟨h1, h2⟩ | ⟨g, cap, cur, h1, h2, h3, h4, h5, h6, h7⟩
  · have : L = [] := List.length_eq_zero_iff.1 h2
    subst this
    exact ⟨none, 0, h1, Or.inl rfl, Nat.le_refl _, fun h => absurd rfl h⟩
  · refine ⟨_, cap, h1, Or.inr ⟨g, 0, rfl, fun j hj => ?_⟩, h4, fun _ => ⟨g, rfl, h2⟩⟩
    obtain ⟨e0, e1, e2, e3, e4⟩ := flat5_get L j hj
    have a0 := hc g (by rw [h1]; rfl) _ _ e0
    have a1 := hc g (by rw [h1]; rfl) _ _ e1
    have a2 := hc g (by rw [h1]; rfl) _ _ e2
    have a3 := hc g (by rw [h1]; rfl) _ _ e3
    have a4 := hc g (by rw [h1]; rfl) _ _ e4
    rw [addr_add] at a0 a1 a2 a3 a4
    exact ⟨a0, a1, a2, a3, a4⟩
theorem OI.kp {T : TypeId} {w w' : World} {base : Nat} {v : Value} {L : List I5} (h : OI T w base v L) (k : Kp w w') : OI T w' base v L := by
  refine ⟨h.1, ?_⟩
  rcases h.2 with h' | ⟨g, cap, cur, h1, h2, h3, h4, h5, h6, h7⟩
  · exact Or.inl h'
  · have hlt : g < w.heap.size := by
      by_cases c : g < w.heap.size
      · exact c
      · rw [Array.getElem?_eq_none (by simpa using c)] at h3; cases h3
    exact Or.inr ⟨g, cap, cur, h1, h2, by rw [Below.block k g hlt]; exact h3, h4, h5, h6, h7⟩
theorem OI.mono {T : TypeId} {w : World} {base base' : Nat} {v : Value} {L : List I5} (h : OI T w base v L) (hb : base' ≤ base) : OI T w base' v L := by
  refine ⟨h.1, ?_⟩
  rcases h.2 with h' | ⟨g, cap, cur, h1, h2, h3⟩
  · exact Or.inl h'
  · exact Or.inr ⟨g, cap, cur, h1, Nat.le_trans hb h2, h3⟩
theorem OI.push {T : TypeId} {w : World} {base : Nat} {v : Value} {L : List I5} {x : I5} (h : w.ownsRow base T 5 v (L.length + 1) (flat5 L ++ [.int .i64 x.1, .int .i64 x.2.1, .int .i64 x.2.2.1, .int .i64 x.2.2.2.1, .int .i64 x.2.2.2.2])) : OI T w base v (L ++ [x]) := by
  unfold OI
  rw [flat5_app, List.length_append]
  exact h
theorem oi_block {T : TypeId} {w : World} {base : Nat} {v : Value} {L : List I5} (h : OI T w base v L) : ∀ k, v.ownBlock = some k → base ≤ k := fun k hk => (World.ownsRow.lt h k hk).1
theorem take_push5 (L : List I5) (k : Nat) (h : k < L.length) : L.take k ++ [L.getD k D5] = L.take (k + 1) := by
  have e : L.getD k D5 = L[k] := by simp [List.getD, h]
  rw [List.take_add_one, List.getElem?_eq_getElem h, e]
  rfl
theorem infF0 : (Try.prog.info? 71).map (fun i => (i.zero, i.size, i.bytes)) = some (some (.agg #[.float .f64 0, .float .f64 0]), 2, 16) := by kernel_rfl
theorem infF : ∃ i, Try.prog.info? 71 = some i ∧ i.zero = some (.agg #[.float .f64 0, .float .f64 0]) ∧ i.size = 2 ∧ i.bytes = 16 := info_parts infF0
theorem infN0 : (Try.prog.info? 62).map (fun i => (i.zero, i.size, i.bytes)) = some (some (.agg #[.int .i64 0, .int .i64 0, .int .i64 0, .int .i64 0, .int .i64 0]), 5, 40) := by kernel_rfl
theorem infN : ∃ i, Try.prog.info? 62 = some i ∧ i.zero = some (.agg #[.int .i64 0, .int .i64 0, .int .i64 0, .int .i64 0, .int .i64 0]) ∧ i.size = 5 ∧ i.bytes = 40 := info_parts infN0

def H3c (w : World) (b : Nat) (v0 v1 v2 : Value) : Prop := w.cell? ⟨b, 0, none⟩ = some v0 ∧ w.cell? ⟨b, 1, none⟩ = some v1 ∧ w.cell? ⟨b, 2, none⟩ = some v2 ∧ w.frozen? ⟨b, 0, none⟩ = false ∧ w.frozen? ⟨b, 1, none⟩ = false ∧ w.frozen? ⟨b, 2, none⟩ = false
theorem H3c.keep {W w : World} {b : Nat} {v0 v1 v2 : Value} (h : H3c W b v0 v1 v2) (g : Kp W w) : H3c w b v0 v1 v2 := by
  obtain ⟨h0, h1, h2, h3, h4, h5⟩ := h
  exact ⟨kkeep g h0, kkeep g h1, kkeep g h2, (kfro g (cell_lt h0)).trans h3, (kfro g (cell_lt h0)).trans h4, (kfro g (cell_lt h0)).trans h5⟩
theorem H3c.new (w : World) (v0 v1 v2 : Value) (t : TypeId) : H3c (w.alloc (.cells #[v0, v1, v2] t)) w.heap.size v0 v1 v2 := by
  unfold H3c; simp [go_sem]
theorem H3c.lt {w : World} {b : Nat} {v0 v1 v2 : Value} (h : H3c w b v0 v1 v2) : b < w.heap.size := cell_lt h.1
set_option maxRecDepth 20000 in
set_option maxHeartbeats 1000000 in
theorem H3c.put {w : World} {b : Nat} {v0 v1 v2 : Value} (h : H3c w b v0 v1 v2) (u0 u1 u2 : Value) : H3c ((((w.setCell ⟨b, 0, none⟩ u0).setCell ⟨b, 1, none⟩ u1).setCell ⟨b, 2, none⟩ u2)) b u0 u1 u2 := by
  obtain ⟨h0, h1, h2, h3, h4, h5⟩ := h
  unfold H3c; simp [go_sem, h0, h1, h2, h3, h4, h5]
theorem H3c.far1 {w : World} {b : Nat} {v0 v1 v2 : Value} (h : H3c w b v0 v1 v2) (x : Addr) (hne : x.block ≠ b) (u : Value) : H3c (w.setCell x u) b v0 v1 v2 := by
  obtain ⟨h0, h1, h2, h3, h4, h5⟩ := h
  exact ⟨(World.cell?_setCell_far _ _ _ _ hne).trans h0, (World.cell?_setCell_far _ _ _ _ hne).trans h1, (World.cell?_setCell_far _ _ _ _ hne).trans h2, (World.frozen?_setCell _ _ _ _).trans h3, (World.frozen?_setCell _ _ _ _).trans h4, (World.frozen?_setCell _ _ _ _).trans h5⟩

def H5c (w : World) (b : Nat) (v0 v1 v2 v3 v4 : Value) : Prop := w.cell? ⟨b, 0, none⟩ = some v0 ∧ w.cell? ⟨b, 1, none⟩ = some v1 ∧ w.cell? ⟨b, 2, none⟩ = some v2 ∧ w.cell? ⟨b, 3, none⟩ = some v3 ∧ w.cell? ⟨b, 4, none⟩ = some v4 ∧ w.frozen? ⟨b, 0, none⟩ = false ∧ w.frozen? ⟨b, 1, none⟩ = false ∧ w.frozen? ⟨b, 2, none⟩ = false ∧ w.frozen? ⟨b, 3, none⟩ = false ∧ w.frozen? ⟨b, 4, none⟩ = false
theorem H5c.keep {W w : World} {b : Nat} {v0 v1 v2 v3 v4 : Value} (h : H5c W b v0 v1 v2 v3 v4) (g : Kp W w) : H5c w b v0 v1 v2 v3 v4 := by
  obtain ⟨h0, h1, h2, h3, h4, h5, h6, h7, h8, h9⟩ := h
  exact ⟨kkeep g h0, kkeep g h1, kkeep g h2, kkeep g h3, kkeep g h4, (kfro g (cell_lt h0)).trans h5, (kfro g (cell_lt h0)).trans h6, (kfro g (cell_lt h0)).trans h7, (kfro g (cell_lt h0)).trans h8, (kfro g (cell_lt h0)).trans h9⟩
theorem H5c.new (w : World) (v0 v1 v2 v3 v4 : Value) (t : TypeId) : H5c (w.alloc (.cells #[v0, v1, v2, v3, v4] t)) w.heap.size v0 v1 v2 v3 v4 := by
  unfold H5c; simp [go_sem]
theorem H5c.lt {w : World} {b : Nat} {v0 v1 v2 v3 v4 : Value} (h : H5c w b v0 v1 v2 v3 v4) : b < w.heap.size := cell_lt h.1
set_option maxRecDepth 20000 in
set_option maxHeartbeats 1000000 in
theorem H5c.put {w : World} {b : Nat} {v0 v1 v2 v3 v4 : Value} (h : H5c w b v0 v1 v2 v3 v4) (u0 u1 u2 u3 u4 : Value) : H5c ((((((w.setCell ⟨b, 0, none⟩ u0).setCell ⟨b, 1, none⟩ u1).setCell ⟨b, 2, none⟩ u2).setCell ⟨b, 3, none⟩ u3).setCell ⟨b, 4, none⟩ u4)) b u0 u1 u2 u3 u4 := by
  obtain ⟨h0, h1, h2, h3, h4, h5, h6, h7, h8, h9⟩ := h
  unfold H5c; simp [go_sem, h0, h1, h2, h3, h4, h5, h6, h7, h8, h9]
theorem H5c.far1 {w : World} {b : Nat} {v0 v1 v2 v3 v4 : Value} (h : H5c w b v0 v1 v2 v3 v4) (x : Addr) (hne : x.block ≠ b) (u : Value) : H5c (w.setCell x u) b v0 v1 v2 v3 v4 := by
  obtain ⟨h0, h1, h2, h3, h4, h5, h6, h7, h8, h9⟩ := h
  exact ⟨(World.cell?_setCell_far _ _ _ _ hne).trans h0, (World.cell?_setCell_far _ _ _ _ hne).trans h1, (World.cell?_setCell_far _ _ _ _ hne).trans h2, (World.cell?_setCell_far _ _ _ _ hne).trans h3, (World.cell?_setCell_far _ _ _ _ hne).trans h4, (World.frozen?_setCell _ _ _ _).trans h5, (World.frozen?_setCell _ _ _ _).trans h6, (World.frozen?_setCell _ _ _ _).trans h7, (World.frozen?_setCell _ _ _ _).trans h8, (World.frozen?_setCell _ _ _ _).trans h9⟩
theorem H3c.newD (w : World) (v0 v1 v2 : Value) (t : TypeId) : H3c ((w.alloc (.cells #[v0, v1, v2] t)).drew) w.heap.size v0 v1 v2 := by
  unfold H3c; simp [go_sem]
theorem H3c.bel {W w : World} {S b : Nat} {v0 v1 v2 : Value} (h : H3c W b v0 v1 v2) (g : Below S W w) (hb : b < S) : H3c w b v0 v1 v2 := by
  obtain ⟨h0, h1, h2, h3, h4, h5⟩ := h
  exact ⟨(Below.cell g hb).trans h0, (Below.cell g hb).trans h1, (Below.cell g hb).trans h2, (World.frozen?_of_block (w := W) (Below.block g b hb)).trans h3, (World.frozen?_of_block (w := W) (Below.block g b hb)).trans h4, (World.frozen?_of_block (w := W) (Below.block g b hb)).trans h5⟩
theorem H5c.newD (w : World) (v0 v1 v2 v3 v4 : Value) (t : TypeId) : H5c ((w.alloc (.cells #[v0, v1, v2, v3, v4] t)).drew) w.heap.size v0 v1 v2 v3 v4 := by
  unfold H5c; simp [go_sem]
theorem H5c.bel {W w : World} {S b : Nat} {v0 v1 v2 v3 v4 : Value} (h : H5c W b v0 v1 v2 v3 v4) (g : Below S W w) (hb : b < S) : H5c w b v0 v1 v2 v3 v4 := by
  obtain ⟨h0, h1, h2, h3, h4, h5, h6, h7, h8, h9⟩ := h
  exact ⟨(Below.cell g hb).trans h0, (Below.cell g hb).trans h1, (Below.cell g hb).trans h2, (Below.cell g hb).trans h3, (Below.cell g hb).trans h4, (World.frozen?_of_block (w := W) (Below.block g b hb)).trans h5, (World.frozen?_of_block (w := W) (Below.block g b hb)).trans h6, (World.frozen?_of_block (w := W) (Below.block g b hb)).trans h7, (World.frozen?_of_block (w := W) (Below.block g b hb)).trans h8, (World.frozen?_of_block (w := W) (Below.block g b hb)).trans h9⟩
theorem OG.bel {f : Nat → Value} {T : TypeId} {w w' : World} {base S : Nat} {v : Value} {ps : List (Nat × Nat)} (h : OG f T w base v ps) (k : Below S w w') (hs : ∀ g, v.ownBlock = some g → g < S) : OG f T w' base v ps := by
  refine ⟨h.1, ?_⟩
  rcases h.2 with h' | ⟨g, cap, cur, h1, h2, h3, h4, h5, h6, h7⟩
  · exact Or.inl h'
  · exact Or.inr ⟨g, cap, cur, h1, h2, by rw [Below.block k g (hs g (by rw [h1]; rfl))]; exact h3, h4, h5, h6, h7⟩
theorem OI.bel {T : TypeId} {w w' : World} {base S : Nat} {v : Value} {L : List I5} (h : OI T w base v L) (k : Below S w w') (hs : ∀ g, v.ownBlock = some g → g < S) : OI T w' base v L := by
  refine ⟨h.1, ?_⟩
  rcases h.2 with h' | ⟨g, cap, cur, h1, h2, h3, h4, h5, h6, h7⟩
  · exact Or.inl h'
  · exact Or.inr ⟨g, cap, cur, h1, h2, by rw [Below.block k g (hs g (by rw [h1]; rfl))]; exact h3, h4, h5, h6, h7⟩
theorem OG.setNe {f : Nat → Value} {T : TypeId} {w : World} {base : Nat} {v : Value} {ps : List (Nat × Nat)} (h : OG f T w base v ps) {b o : Nat} (hb : ∀ g, v.ownBlock = some g → g ≠ b) (u : Value) : OG f T (w.setCell ⟨b, o, none⟩ u) base v ps := ownsRow_setCell_other h (fun e => hb _ e rfl) u
theorem OI.setNe {T : TypeId} {w : World} {base : Nat} {v : Value} {L : List I5} (h : OI T w base v L) {b o : Nat} (hb : ∀ g, v.ownBlock = some g → g ≠ b) (u : Value) : OI T (w.setCell ⟨b, o, none⟩ u) base v L := ownsRow_setCell_other h (fun e => hb _ e rfl) u
theorem og_lt {f : Nat → Value} {T : TypeId} {w : World} {base : Nat} {v : Value} {ps : List (Nat × Nat)} (h : OG f T w base v ps) : ∀ k, v.ownBlock = some k → k < w.heap.size := fun k hk => (World.ownsRow.lt h k hk).2
theorem og_sets3 {f : Nat → Value} {T : TypeId} {w : World} {base : Nat} {v : Value} {ps : List (Nat × Nat)} (h : OG f T w base v ps) {b : Nat} (hb : ∀ g, v.ownBlock = some g → g ≠ b) (x y z : Value) : OG f T (((w.setCell ⟨b, 0, none⟩ x).setCell ⟨b, 1, none⟩ y).setCell ⟨b, 2, none⟩ z) base v ps := ((h.setNe hb x).setNe hb y).setNe hb z
theorem oi_sets3 {T : TypeId} {w : World} {base : Nat} {v : Value} {L : List I5} (h : OI T w base v L) {b : Nat} (hb : ∀ g, v.ownBlock = some g → g ≠ b) (x y z : Value) : OI T (((w.setCell ⟨b, 0, none⟩ x).setCell ⟨b, 1, none⟩ y).setCell ⟨b, 2, none⟩ z) base v L := ((h.setNe hb x).setNe hb y).setNe hb z
theorem H3c.set2 {w : World} {b : Nat} {v0 v1 v2 : Value} (h : H3c w b v0 v1 v2) (u : Value) : H3c (w.setCell ⟨b, 2, none⟩ u) b v0 v1 u := by
  obtain ⟨h0, h1, h2, h3, h4, h5⟩ := h
  unfold H3c; simp [go_sem, h0, h1, h2, h3, h4, h5]
end X7
end Go.Proofs.Ytipedmnipolmeaa
