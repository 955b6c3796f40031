import Derived.Test.YtinohggonicjhaaGreatDoorKXSL
import Derived.Test.YtinohggonicjhaaGreatDoorKXY
namespace Go.Proofs.YtinohggonicjhaaGreatDoor
open Go.RowKit

structure Rs where
  l1 : List Int
  l2 : List Int
  W : Int
  Z : Int
  B : Bool
  E : Int
structure Out (w : World) (base : Nat) (r : Rs) (p1 : Option Addr) (c1 : Nat) (p2 : Option Addr) (c2 : Nat) : Prop where
  o1 : Own w base (.slice p1 r.l1.length c1) r.l1
  o2 : Own w base (.slice p2 r.l2.length c2) r.l2
  ne : ∀ g, p1 = some ⟨g, 0, none⟩ → p2 ≠ some ⟨g, 0, none⟩
theorem Out.grown {w w' : World} {base : Nat} {r : Rs} {p1 p2 : Option Addr} {c1 c2 : Nat} (h : Out w base r p1 c1 p2 c2) (k : Kp w w') : Out w' base r p1 c1 p2 c2 := ⟨h.o1.kp k, h.o2.kp k, h.ne⟩
theorem Rw.all {w : World} {g n : Nat} {xs : List Int} (h : Rw w g n xs) (hn : xs.length = n) : Arr w (some ⟨g, 0, none⟩) xs := by
  refine Or.inr ⟨g, 0, rfl, fun j hj => ?_⟩
  rw [Nat.zero_add]
  exact World.rowIs.cell h (by omega)
theorem Rw.kb {w w' : World} {a g n : Nat} {xs : List Int} (h : Rw w g n xs) (k : Kb a w w') (hne : g ≠ a) : Rw w' g n xs := World.rowIs.of_block h (k.2.2.2.2 g (World.rowIs.lt h) hne)
theorem Own.kb {w w' : World} {a base : Nat} {v : Value} {xs : List Int} (h : Own w base v xs) (k : Kb a w w') (hne : ∀ g, v.ownBlock = some g → g ≠ a) : Own w' base v xs := by
  refine ⟨h.1, ?_⟩
  rcases h.2 with h' | ⟨g, cap, cur, h1, h2, h3, h4, h5, h6, h7⟩
  · exact Or.inl h'
  · have hlt : g < w.heap.size := by
      by_cases c : g < w.heap.size
      · exact c
      · rw [Array.getElem?_eq_none (by simpa using c)] at h3; cases h3
    exact Or.inr ⟨g, cap, cur, h1, h2, by rw [k.2.2.2.2 g hlt (hne g (by rw [h1]; rfl))]; exact h3, h4, h5, h6, h7⟩
structure Cs (w : World) (b : Nat) (r : Rs) (p1 : Option Addr) (c1 : Nat) (p2 : Option Addr) (c2 : Nat) : Prop where
  c0 : w.cell? ⟨b, 0, none⟩ = some (.slice p1 r.l1.length c1)
  c1 : w.cell? ⟨b, 1, none⟩ = some (.slice p2 r.l2.length c2)
  c2 : w.cell? ⟨b, 2, none⟩ = some (.int .u64 r.W)
  c3 : w.cell? ⟨b, 3, none⟩ = some (.int .i64 r.Z)
  c4 : w.cell? ⟨b, 4, none⟩ = some (.bool r.B)
  c5 : w.cell? ⟨b, 5, none⟩ = some (.int .i64 r.E)
theorem Cs.grown {w w' : World} {b : Nat} {r : Rs} {p1 p2 : Option Addr} {c1 c2 : Nat} (h : Cs w b r p1 c1 p2 c2) (k : Kp w w') : Cs w' b r p1 c1 p2 c2 := ⟨kkeep k h.c0, kkeep k h.c1, kkeep k h.c2, kkeep k h.c3, kkeep k h.c4, kkeep k h.c5⟩
theorem Cs.kb {w w' : World} {a b : Nat} {r : Rs} {p1 p2 : Option Addr} {c1 c2 : Nat} (h : Cs w b r p1 c1 p2 c2) (k : Kb a w w') (hne : b ≠ a) : Cs w' b r p1 c1 p2 c2 := ⟨k.arr hne h.c0, k.arr hne h.c1, k.arr hne h.c2, k.arr hne h.c3, k.arr hne h.c4, k.arr hne h.c5⟩
theorem Cs.six {w : World} {b : Nat} {r : Rs} {p1 p2 : Option Addr} {c1 c2 : Nat} (h : Cs w b r p1 c1 p2 c2) : w.cell? ⟨b, 0, none⟩ = some (.slice p1 r.l1.length c1) ∧ w.cell? ⟨b, 1, none⟩ = some (.slice p2 r.l2.length c2) ∧ w.cell? ⟨b, 2, none⟩ = some (.int .u64 r.W) ∧ w.cell? ⟨b, 3, none⟩ = some (.int .i64 r.Z) ∧ w.cell? ⟨b, 4, none⟩ = some (.bool r.B) ∧ w.cell? ⟨b, 5, none⟩ = some (.int .i64 r.E) := ⟨h.c0, h.c1, h.c2, h.c3, h.c4, h.c5⟩
def Bd (lo hi : Nat) (p1 p2 : Option Addr) : Prop := ∀ g, p1 = some ⟨g, 0, none⟩ ∨ p2 = some ⟨g, 0, none⟩ → lo ≤ g ∧ g < hi
theorem own_p {p : Option Addr} {n c g : Nat} {w : World} {base : Nat} {xs : List Int} (h : Own w base (.slice p n c) xs) (hg : (Value.slice p n c).ownBlock = some g) : p = some ⟨g, 0, none⟩ := by
  rcases h.2 with ⟨h', _⟩ | ⟨g', cap, cur, h1, _⟩
  · rw [h'] at hg; cases hg
  · cases h1; cases hg; rfl
theorem Out.bd {w : World} {base : Nat} {r : Rs} {p1 p2 : Option Addr} {c1 c2 : Nat} (h : Out w base r p1 c1 p2 c2) : Bd base w.heap.size p1 p2 := by
  intro g hg
  rcases hg with rfl | rfl
  · exact h.o1.lt g rfl
  · exact h.o2.lt g rfl
theorem Out.kb {w w' : World} {a base lo hi : Nat} {r : Rs} {p1 p2 : Option Addr} {c1 c2 : Nat} (h : Out w base r p1 c1 p2 c2) (k : Kb a w w') (b : Bd lo hi p1 p2) (ha : a < lo ∨ hi ≤ a) : Out w' base r p1 c1 p2 c2 :=
  ⟨h.o1.kb k (fun g hg => by have := b g (Or.inl (own_p h.o1 hg)); omega), h.o2.kb k (fun g hg => by have := b g (Or.inr (own_p h.o2 hg)); omega), h.ne⟩
def Ls (w : World) (v : Value) (L : List Int) : Prop := ∃ p c, v = .slice p L.length c ∧ Arr w p L ∧ L.length ≤ c
theorem Ls.kp {w w' : World} {v : Value} {L : List Int} (h : Ls w v L) (k : Kp w w') : Ls w' v L := by
  obtain ⟨p, c, e, hA, hc⟩ := h
  exact ⟨p, c, e, hA.grown k, hc⟩
theorem Own.ls {w : World} {base : Nat} {v : Value} {L : List Int} (h : Own w base v L) : Ls w v L := by
  obtain ⟨p, c, e, hA, hc⟩ := h.arr
  exact ⟨p, c, e, hA, hc⟩
theorem dlen (a K : Nat) (h : blen a ≤ 32 * K) : (dig a).length ≤ K := by
  have h1 := (blen_le_iff a (32 * K)).1 h
  rw [← pow32] at h1
  by_cases c : (dig a).length ≤ K
  · exact c
  · exfalso
    have := len32_lt a K (by unfold len32; omega)
    omega
def Two (w : World) (base : Nat) (l1 l2 : List Int) (e : Value) : Prop := ∃ p1 c1 p2 c2, e = .tuple #[.slice p1 l1.length c1, .slice p2 l2.length c2] ∧ Own w base (.slice p1 l1.length c1) l1 ∧ Own w base (.slice p2 l2.length c2) l2 ∧ ∀ g, p1 = some ⟨g, 0, none⟩ → p2 ≠ some ⟨g, 0, none⟩
theorem Own.above {w : World} {base n c b : Nat} {xs : List Int} (h : Own w base (.slice (some ⟨b, 0, none⟩) n c) xs) : base ≤ b ∧ b < w.heap.size := by
  rcases h.2 with h' | ⟨g, cap, cur, h1, h2, h3, h4⟩
  · have := h'.1
    cases this
  · cases h1
    refine ⟨h2, ?_⟩
    by_cases c : b < w.heap.size
    · exact c
    · rw [Array.getElem?_eq_none (by omega)] at h3
      cases h3
theorem Own.len {w : World} {base : Nat} {v : Value} {xs : List Int} (h : Own w base v xs) : ∃ p c, v = .slice p xs.length c ∧ (p = none ∨ ∃ b, p = some ⟨b, 0, none⟩) := by
  obtain ⟨p, c, e, _⟩ := h.arr
  refine ⟨p, c, e, ?_⟩
  subst e
  rcases h.2 with h' | ⟨g, cap, cur, h1, h2⟩
  · have h3 := h'.1
    injection h3 with h4
    exact Or.inl h4
  · cases h1
    exact Or.inr ⟨g, rfl⟩
end Go.Proofs.YtinohggonicjhaaGreatDoor
