import Derived.Test.YtakcpoapokacgabDoorProg
import Derived.Test.YtakcpoapokacgabDoorA
import Derived.Test.YtakcpoapokacgabDoorA2
import Derived.Test.YtakcpoapokacgabDoorA4
import Derived.WalkKit
import Derived.ProofKit
import Derived.RowKit3
import Derived.WalkSpells
import Derived.StillTactics
import Derived.Deep.QuietTactic
import Derived.BigQuiet
import Derived.Below
import Derived.Deep.OwnRows
import Derived.OwnWalk
import Derived.ArgAppend
namespace Go.Proofs.YtakcpoapokacgabDoor
open Go.RowKit

theorem row_of_cells {w : World} {g cap : Nat} {e : TypeId} {cur : Array Value} (h : w.heap[g]? = some (.cells cur e (0, 0))) (hs : cur.size = cap) : w.rowIs g e cap (fun j => cur.getD j undef) :=
  ⟨cur, h, hs, fun j hj => by simp [Array.getD, show j < cur.size from by omega]⟩
/-- append onto a row of one's own, or onto no list at all: all that is known of the answer -/
theorem wpList_app {P : Program} (w : World) {ops : Array Oper} {rest : List Oper} {o : Oper} {a : Act} {Q : Exit → Act → World → Prop}
    (hg : o.guard = none) (s x : Operand) (t : TypeId) (hop : o.op = Op.call { callee := Callee.builtin Builtin.append, args := #[s, x], argTypes := #[t, t] })
    (e : TypeId) (i : TypeInfo) (z : Value) (bytes : Nat) (h1 : P.underlying t = some (.slice e)) (h2 : P.info? e = some i) (h3 : i.zero = some z) (h4 : i.size = 1) (h5 : i.bytes = bytes) (h6 : z.cells.size = 1)
    (p : Option Addr) (n cap : Nat) (olds : List Value) (hs : a.eval s = .slice p n cap) (hlo : olds.length = n)
    (hp : (p = none ∧ n = 0 ∧ cap = 0) ∨ ∃ g f, p = some ⟨g, 0, none⟩ ∧ w.rowIs g e cap f ∧ n ≤ cap ∧ ∀ j u, olds[j]? = some u → f j = u)
    (ad : Addr) (m c : Nat) (news : List Value) (hx : a.eval x = .slice (some ad) m c) (hm : 0 < m) (hn : news.length = m) (hc : ∀ j u, news[j]? = some u → w.cell? (ad.add j) = some u) (h1c : ∀ u ∈ news, u.oneCell' = true)
    (b1 : n + m ≤ maxLen) (b2 : (n + m) * bytes ≤ 140737488355328)
    (hK : ∀ g' cap' w', n + m ≤ cap' → (∃ f, w'.rowIs g' e cap' f ∧ ∀ j u, (olds ++ news)[j]? = some u → f j = u) →
      ((p = some ⟨g', 0, none⟩ ∧ cap' = cap ∧ w' = w.setCells g' n news) ∨ (w.heap.size ≤ g' ∧ w.grownBy w' none)) → wpList P ops Q rest (a.put o.dst (.slice (some ⟨g', 0, none⟩) (n + m) cap')) w') :
    wpList P ops Q (o :: rest) a w := by
  have grow : ∀ v' w', w'.ownsRow w.heap.size e 1 v' (n + m) (olds ++ news) → w.grownBy w' none → wpList P ops Q rest (a.put o.dst v') w' := by
    intro v' w' ho hgb
    rcases ho.2 with ⟨_, h0⟩ | ⟨g, cp, cur, hv, hb, hh, hle, _, hsz, htk⟩
    · omega
    · subst hv
      refine hK g cp w' hle ⟨_, row_of_cells hh (by omega), fun j u hj => ?_⟩ (Or.inr ⟨hb, hgb⟩)
      rw [← htk] at hj
      have hlt : j < (n + m) * 1 := by
        have := List.getElem?_eq_some_iff.1 hj
        obtain ⟨hl, _⟩ := this
        simp at hl; omega
      rw [List.getElem?_take, if_pos hlt] at hj
      have hj2 : cur[j]? = some u := by rw [← Array.getElem?_toList]; exact hj
      have hlt2 : j < cur.size := by
        have := Array.getElem?_eq_some_iff.1 hj2
        exact this.1
      have hj3 : cur[j] = u := by simpa [hlt2] using hj2
      simp [Array.getD, hlt2, hj3]
  rcases hp with ⟨rfl, rfl, rfl⟩ | ⟨g, f, rfl, hr, hnc, hof⟩
  · exact wpList_append_grows w hg s x t hop e i z 1 bytes h1 h2 h3 h4 h5 h6 (by decide) none 0 0 olds hs (fun _ => ⟨rfl, rfl⟩) (by omega) (fun b hb => by cases hb) ad m c news hx (by omega) hc h1c (by omega) b1 b2 grow
  · refine wpList_append_arg w hg s x t hop e i z 1 bytes h1 h2 h3 h4 h5 h6 (by decide) g 0 n cap olds hs (by omega) (fun j u hj => ?_) ad m c news hx (by omega) hc h1c (fun hroom j hj => ?_) b1 b2 (fun hroom => ?_) (fun _ => grow)
    · have hlt : j < n := by
        have := List.getElem?_eq_some_iff.1 hj
        obtain ⟨hl, _⟩ := this
        omega
      rw [Nat.zero_add, hr.cell (by omega), hof j u hj]
    · rw [show 0 + n * 1 + j = n + j from by omega, hr.cell (by omega)]
      exact ⟨rfl, hr.frozen _⟩
    · rw [show 0 + n * 1 = n from by omega]
      refine hK g cap _ hroom ⟨_, setCells_row news n w f hr, fun j u hj => ?_⟩ (Or.inl ⟨rfl, rfl, rfl⟩)
      by_cases d : j < n
      · rw [List.getElem?_append_left (by omega)] at hj
        rw [if_neg (by omega)]; exact hof j u hj
      · rw [List.getElem?_append_right (by omega)] at hj
        have hlt : j - olds.length < news.length := by
          have := List.getElem?_eq_some_iff.1 hj
          exact this.1
        rw [if_pos (by omega)]
        rw [hlo] at hj
        simp [List.getD, hj]
end Go.Proofs.YtakcpoapokacgabDoor
