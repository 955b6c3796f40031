import Derived.Test.YthajkngngdnidaaProg
import Derived.Test.YthajkngngdnidaaKXA0
import Derived.WalkKit
import Derived.ProofKit
import Derived.RowKit3
import Derived.WalkSpells
import Derived.StillTactics
import Derived.Deep.QuietTactic
import Derived.BigQuiet
import Derived.Below
import Derived.Deep.OwnRows
import Derived.OwnWalk
namespace Go.Proofs.Ythajkngngdnidaa
open Go.RowKit
open Go
namespace U9
/-- the cells that a slice shows: xs, at p -/
def Arr (w : World) (p : Option Addr) (xs : List Int) : Prop := xs = [] ∨ ∃ b off, p = some ⟨b, off, none⟩ ∧ ∀ j, j < xs.length → w.cell? ⟨b, off + j, none⟩ = some (.int .u64 (xs.getD j 0))
theorem Arr.grown {w w' : World} {p : Option Addr} {xs : List Int} (h : Arr w p xs) (g : Kp w w') : Arr w' p xs := by
  rcases h with h | ⟨b, off, h1, h2⟩
  · exact Or.inl h
  · exact Or.inr ⟨b, off, h1, fun j hj => kkeep g (h2 j hj)⟩
theorem Arr.at {w : World} {p : Option Addr} {xs : List Int} (h : Arr w p xs) {k : Nat} (hk : k < xs.length) : ∃ b off, p = some ⟨b, off, none⟩ ∧ ∀ j, j < xs.length → w.cell? ⟨b, off + j, none⟩ = some (.int .u64 (xs.getD j 0)) := by
  rcases h with h | h
  · subst h; simp at hk
  · exact h
/-- block g is a row of n words, the first ones xs, the others 0 -/
def Rw (w : World) (g n : Nat) (xs : List Int) : Prop := w.rowIs g 24 n (fun j => .int .u64 (xs.getD j 0))
theorem rowIs_grown {w w' : World} {g : Nat} {t : TypeId} {n : Nat} {f : Nat → Value} (h : w.rowIs g t n f) (gr : Kp w w') : w'.rowIs g t n f := by
  exact h.of_block (Below.block gr g h.lt)
theorem Rw.grown {w w' : World} {g n : Nat} {xs : List Int} (h : Rw w g n xs) (gr : Kp w w') : Rw w' g n xs := rowIs_grown h gr
/-- a row, looked at as a slice -/
theorem Rw.arr {w : World} {g n : Nat} {xs : List Int} (h : Rw w g n xs) (k : Nat) (hk : k ≤ n) (hx : k ≤ xs.length) : Arr w (some ⟨g, 0, none⟩) (xs.take k) := by
  refine Or.inr ⟨g, 0, rfl, fun j hj => ?_⟩
  have hj2 : j < k := by simp at hj; omega
  rw [Nat.zero_add, World.rowIs.cell h (by omega)]
  simp [List.getD, hj2]
theorem inf64 : (Try.prog.info? 24).map (fun i => (i.zero, i.size, i.bytes)) = some (some (.int .u64 0), 1, 8) := by kernel_rfl

/-- a list of the call's own: in a row from block 'base' on, or no list at all -/
def Own (w : World) (base : Nat) (v : Value) (xs : List Int) : Prop := w.ownsRow base 24 1 v xs.length (xs.map (Value.int .u64))
theorem Own.nil (w : World) (base : Nat) : Own w base (.slice none 0 0) [] := World.ownsRow_nil _ _ _ _
theorem Own.arr {w : World} {base : Nat} {v : Value} {xs : List Int} (h : Own w base v xs) : ∃ p c, v = .slice p xs.length c ∧ Arr w p xs ∧ xs.length ≤ c := by
  have hc : ∀ g, v.ownBlock = some g → ∀ j u, (xs.map (Value.int .u64))[j]? = some u → w.cell? ((⟨g, 0, none⟩ : Addr).add j) = some u := fun g hg => World.ownsRow.cells h hg
  rcases h.2 with ⟨h1, h2⟩ | ⟨g, cap, cur, h1, h2, h3, h4, h5, h6, h7⟩
  · have : xs = [] := List.length_eq_zero_iff.1 h2
    subst this
    exact ⟨none, 0, h1, Or.inl rfl, Nat.le_refl _⟩
  · refine ⟨_, cap, h1, Or.inr ⟨g, 0, rfl, fun j hj => ?_⟩, h4⟩
    have := hc g (by rw [h1]; rfl) j (.int .u64 (xs.getD j 0)) (by simp [List.getD, hj])
    have e : (⟨g, 0, none⟩ : Addr).add j = ⟨g, j, none⟩ := by
      unfold Addr.add
      by_cases c : j = 0
      · subst c; simp
      · simp [c]
    rw [Nat.zero_add, ← e]
    exact this
theorem Own.kp {w w' : World} {base : Nat} {v : Value} {xs : List Int} (h : Own w base v xs) (k : Kp w w') : Own w' base v xs := by
  refine ⟨h.1, ?_⟩
  rcases h.2 with h' | ⟨g, cap, cur, h1, h2, h3, h4, h5, h6, h7⟩
  · exact Or.inl h'
  · have hlt : g < w.heap.size := by
      by_cases c : g < w.heap.size
      · exact c
      · rw [Array.getElem?_eq_none (by simpa using c)] at h3; cases h3
    exact Or.inr ⟨g, cap, cur, h1, h2, by rw [Below.block k g hlt]; exact h3, h4, h5, h6, h7⟩
theorem Own.mono {w : World} {base base' : Nat} {v : Value} {xs : List Int} (h : Own w base v xs) (hb : base' ≤ base) : Own w base' v xs := by
  refine ⟨h.1, ?_⟩
  rcases h.2 with h' | ⟨g, cap, cur, h1, h2, h3⟩
  · exact Or.inl h'
  · exact Or.inr ⟨g, cap, cur, h1, Nat.le_trans hb h2, h3⟩
theorem Own.of_row {w : World} {base g n k : Nat} {xs : List Int} (h : Rw w g n xs) (hb : base ≤ g) (hk : k ≤ n) (hx : xs.length = n) (hn : n ≤ maxLen) : Own w base (.slice (some ⟨g, 0, none⟩) k n) (xs.take k) := by
  have hl : (xs.take k).length = k := by rw [List.length_take]; omega
  refine ⟨by simp, Or.inr ?_⟩
  rw [hl]
  obtain ⟨cur, h1, h2, h3⟩ := h
  refine ⟨g, n, cur, rfl, hb, h1, hk, hn, by omega, ?_⟩
  rw [Nat.mul_one]
  apply List.ext_getElem?
  intro j
  by_cases c : j < k
  · have := h3 j (by omega)
    simp [c, List.getElem?_map]
    simpa [List.getD, show j < xs.length from by omega] using this
  · simp [List.getElem?_take, c]
theorem inf64p : ∃ i, Try.prog.info? 24 = some i ∧ i.zero = some (.int .u64 0) ∧ i.size = 1 ∧ i.bytes = 8 := info_parts inf64
/-- one word more -/
theorem Own.push {w : World} {base : Nat} {v : Value} {xs : List Int} {X : Int} (h : w.ownsRow base 24 1 v (xs.length + 1) (xs.map (Value.int .u64) ++ [.int .u64 X])) : Own w base v (xs ++ [X]) := by
  unfold Own
  simpa using h
theorem own_block {w : World} {base : Nat} {v : Value} {xs : List Int} (h : Own w base v xs) : ∀ k, v.ownBlock = some k → base ≤ k := fun k hk => (h.lt k hk).1
theorem take_push (xs : List Int) (k : Nat) (h : k < xs.length) : xs.take k ++ [xs.getD k 0] = xs.take (k + 1) := by
  rw [List.take_add_one, List.getElem?_eq_getElem h]
  simp [List.getD, h]
end U9
end Go.Proofs.Ythajkngngdnidaa
