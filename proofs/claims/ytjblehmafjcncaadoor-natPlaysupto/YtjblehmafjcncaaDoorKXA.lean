import Derived.Test.YtjblehmafjcncaaDoorProg
import Derived.Test.YtjblehmafjcncaaDoorKXA0
import Derived.Test.YtjblehmafjcncaaDoorKXM
import Derived.WalkKit
import Derived.ProofKit
import Derived.RowKit3
import Derived.WalkSpells
import Derived.StillTactics
import Derived.Deep.QuietTactic
import Derived.BigQuiet
import Derived.Below
import Derived.Deep.OwnRows
import Derived.OwnWalk
import Derived.ArgAppend
namespace Go.Proofs.YtjblehmafjcncaaDoor
open Go.RowKit

/-- rows that bear a mark: block, room, how many words for sure, the mark -/
abbrev Mrk := Nat × Nat × Nat × Int
def Inv (w : World) (R : List Mrk) : Prop := (∀ b cp k m, (b, cp, k, m) ∈ R → ∃ f, w.rowIs b 38 cp f ∧ ∀ x, x < k → f x = .int .u32 m) ∧ (∀ b cp k m cp' k' m', (b, cp, k, m) ∈ R → (b, cp', k', m') ∈ R → m = m')
theorem Inv.lt {w : World} {R : List Mrk} (h : Inv w R) {b cp k : Nat} {m : Int} (hm : (b, cp, k, m) ∈ R) : b < w.heap.size := by
  obtain ⟨f, h1, _⟩ := h.1 b cp k m hm
  exact h1.lt
theorem Inv.of_blocks {w w' : World} {R : List Mrk} (h : Inv w R) (hb : ∀ b cp k m, (b, cp, k, m) ∈ R → w'.heap[b]? = w.heap[b]?) : Inv w' R :=
  ⟨fun b cp k m hm => by
    obtain ⟨f, h1, h2⟩ := h.1 b cp k m hm
    exact ⟨f, h1.of_block (hb b cp k m hm), h2⟩, h.2⟩
theorem Inv.alloc {w : World} {R : List Mrk} (h : Inv w R) (o : Obj) : Inv (w.alloc o) R := h.of_blocks (fun b _ _ _ hm => Below.heap_alloc w o b (h.lt hm))
theorem Inv.by {w w' : World} {R : List Mrk} {row : Option Nat} (h : Inv w R) (hg : w.grownBy w' row) (hr : ∀ b cp k m, (b, cp, k, m) ∈ R → some b ≠ row) : Inv w' R :=
  h.of_blocks (fun b cp k m hm => hg.block b (h.lt hm) (hr b cp k m hm))
theorem Inv.write {w : World} {R : List Mrk} (h : Inv w R) {a : Nat} {m : Int} (ha : ∀ cp k m', (a, cp, k, m') ∈ R → m' = m) (j : Nat) : Inv (w.setCell ⟨a, j, none⟩ (.int .u32 m)) R :=
  ⟨fun b cp k m' hm => by
    obtain ⟨f, h1, h2⟩ := h.1 b cp k m' hm
    by_cases c : b = a
    · subst c
      have e := ha cp k m' hm
      subst e
      refine ⟨_, h1.set j (.int .u32 m'), fun x hx => ?_⟩
      by_cases d : x = j
      · rw [if_pos d]
      · rw [if_neg d]; exact h2 x hx
    · exact ⟨f, h1.setOther (a := ⟨a, j, none⟩) c _, h2⟩, h.2⟩
theorem Inv.writes {R : List Mrk} {a : Nat} {m : Int} : ∀ (s j : Nat) (w : World), Inv w R → (∀ cp k m', (a, cp, k, m') ∈ R → m' = m) → Inv (w.setCells a j (List.replicate s (.int .u32 m))) R
  | 0, _, _, h, _ => h
  | s + 1, j, w, h, ha => by
    rw [List.replicate_succ]
    exact Inv.writes s (j + 1) _ (h.write ha j) ha
theorem Inv.cons {w : World} {R : List Mrk} (h : Inv w R) {b cp k : Nat} {m : Int} (hr : ∃ f, w.rowIs b 38 cp f ∧ ∀ x, x < k → f x = .int .u32 m) (hc : ∀ cp' k' m', (b, cp', k', m') ∈ R → m' = m) : Inv w ((b, cp, k, m) :: R) := by
  refine ⟨fun b' cp' k' m' hm => ?_, fun b' cp1 k1 m1 cp2 k2 m2 h1 h2 => ?_⟩
  · rcases List.mem_cons.1 hm with e | e
    · cases e; exact hr
    · exact h.1 _ _ _ _ e
  · rcases List.mem_cons.1 h1 with e1 | e1
    · cases e1
      rcases List.mem_cons.1 h2 with e2 | e2
      · cases e2; rfl
      · exact (hc _ _ _ e2).symm
    · rcases List.mem_cons.1 h2 with e2 | e2
      · cases e2; exact hc _ _ _ e1
      · exact h.2 _ _ _ _ _ _ _ e1 e2
/-- blocks from B on, and those that X names, may have changed; no other -/
def Ks (B : Nat) (X : Nat → Prop) (w w' : World) : Prop := w'.os = w.os ∧ w'.tape = w.tape ∧ w'.output = w.output ∧ w.heap.size ≤ w'.heap.size ∧ ∀ k, k < B → ¬ X k → w'.heap[k]? = w.heap[k]?
theorem Ks.refl (B : Nat) (X : Nat → Prop) (w : World) : Ks B X w w := ⟨rfl, rfl, rfl, Nat.le_refl _, fun _ _ _ => rfl⟩
theorem Ks.alloc {B : Nat} {X : Nat → Prop} {w w' : World} (h : Ks B X w w') (hB : B ≤ w.heap.size) (o : Obj) : Ks B X w (w'.alloc o) := by
  obtain ⟨h1, h2, h3, h4, h5⟩ := h
  refine ⟨h1, h2, h3, by show w.heap.size ≤ (w'.heap.push o).size; simp; omega, fun k hk hx => ?_⟩
  rw [Below.heap_alloc w' o k (by omega)]; exact h5 k hk hx
theorem Ks.write {B : Nat} {X : Nat → Prop} {w w' : World} (h : Ks B X w w') {a : Nat} (ha : B ≤ a ∨ X a) (j : Nat) (v : Value) : Ks B X w (w'.setCell ⟨a, j, none⟩ v) := by
  obtain ⟨h1, h2, h3, h4, h5⟩ := h
  refine ⟨h1, h2, h3, by simpa [World.setCell] using h4, fun k hk hx => ?_⟩
  have hne : k ≠ a := by rintro rfl; rcases ha with c | c; omega; exact hx c
  rw [← h5 k hk hx]
  simp only [World.setCell, Array.getElem?_modify]
  rw [if_neg (by omega)]
theorem Ks.writes {B : Nat} {X : Nat → Prop} {w : World} {a : Nat} (ha : B ≤ a ∨ X a) : ∀ (vs : List Value) (j : Nat) (w' : World), Ks B X w w' → Ks B X w (w'.setCells a j vs)
  | [], _, _, h => h
  | v :: vs, j, _, h => Ks.writes ha vs (j + 1) _ (h.write ha j v)
theorem Ks.by {B : Nat} {X : Nat → Prop} {w w' w'' : World} {row : Option Nat} (h : Ks B X w w') (hB : B ≤ w.heap.size) (hg : w'.grownBy w'' row) (hr : ∀ k, row = some k → B ≤ k) : Ks B X w w'' := by
  obtain ⟨h1, h2, h3, h4, h5⟩ := h
  refine ⟨hg.os.trans h1, hg.tape.trans h2, hg.output.trans h3, Nat.le_trans h4 hg.size, fun k hk hx => ?_⟩
  rw [hg.block k (by omega) (fun e => by have := hr k e.symm; omega)]
  exact h5 k hk hx
theorem Ks.drew {B : Nat} {X : Nat → Prop} {w w' : World} (h : Ks B X w w') : Ks B X w w'.drew := h

theorem row_of_cells {w : World} {g cap : Nat} {e : TypeId} {cur : Array Value} (h : w.heap[g]? = some (.cells cur e (0, 0))) (hs : cur.size = cap) : w.rowIs g e cap (fun j => cur.getD j undef) :=
  ⟨cur, h, hs, fun j hj => by simp [Array.getD, show j < cur.size from by omega]⟩
/-- append onto a row of one's own, or onto no list at all: all that is known of the answer -/
theorem wpList_app {P : Program} (w : World) {ops : Array Oper} {rest : List Oper} {o : Oper} {a : Act} {Q : Exit → Act → World → Prop}
    (hg : o.guard = none) (s x : Operand) (t : TypeId) (hop : o.op = Op.call { callee := Callee.builtin Builtin.append, args := #[s, x], argTypes := #[t, t] })
    (e : TypeId) (i : TypeInfo) (z : Value) (bytes : Nat) (h1 : P.underlying t = some (.slice e)) (h2 : P.info? e = some i) (h3 : i.zero = some z) (h4 : i.size = 1) (h5 : i.bytes = bytes) (h6 : z.cells.size = 1)
    (p : Option Addr) (n cap : Nat) (olds : List Value) (hs : a.eval s = .slice p n cap) (hlo : olds.length = n)
    (hp : (p = none ∧ n = 0 ∧ cap = 0) ∨ ∃ g f, p = some ⟨g, 0, none⟩ ∧ w.rowIs g e cap f ∧ n ≤ cap ∧ ∀ j u, olds[j]? = some u → f j = u)
    (ad : Addr) (m c : Nat) (news : List Value) (hx : a.eval x = .slice (some ad) m c) (hm : 0 < m) (hn : news.length = m) (hc : ∀ j u, news[j]? = some u → w.cell? (ad.add j) = some u) (h1c : ∀ u ∈ news, u.oneCell' = true)
    (b1 : n + m ≤ maxLen) (b2 : (n + m) * bytes ≤ 140737488355328)
    (hK : ∀ g' cap' w', n + m ≤ cap' → (∃ f, w'.rowIs g' e cap' f ∧ ∀ j u, (olds ++ news)[j]? = some u → f j = u) →
      ((p = some ⟨g', 0, none⟩ ∧ cap' = cap ∧ w' = w.setCells g' n news) ∨ (w.heap.size ≤ g' ∧ w.grownBy w' none)) → wpList P ops Q rest (a.put o.dst (.slice (some ⟨g', 0, none⟩) (n + m) cap')) w') :
    wpList P ops Q (o :: rest) a w := by
  have grow : ∀ v' w', w'.ownsRow w.heap.size e 1 v' (n + m) (olds ++ news) → w.grownBy w' none → wpList P ops Q rest (a.put o.dst v') w' := by
    intro v' w' ho hgb
    rcases ho.2 with ⟨_, h0⟩ | ⟨g, cp, cur, hv, hb, hh, hle, _, hsz, htk⟩
    · omega
    · subst hv
      refine hK g cp w' hle ⟨_, row_of_cells hh (by omega), fun j u hj => ?_⟩ (Or.inr ⟨hb, hgb⟩)
      rw [← htk] at hj
      have hlt : j < (n + m) * 1 := by
        have := List.getElem?_eq_some_iff.1 hj
        obtain ⟨hl, _⟩ := this
        simp at hl; omega
      rw [List.getElem?_take, if_pos hlt] at hj
      have hj2 : cur[j]? = some u := by rw [← Array.getElem?_toList]; exact hj
      have hlt2 : j < cur.size := by
        have := Array.getElem?_eq_some_iff.1 hj2
        exact this.1
      have hj3 : cur[j] = u := by simpa [hlt2] using hj2
      simp [Array.getD, hlt2, hj3]
  rcases hp with ⟨rfl, rfl, rfl⟩ | ⟨g, f, rfl, hr, hnc, hof⟩
  · exact wpList_append_grows w hg s x t hop e i z 1 bytes h1 h2 h3 h4 h5 h6 (by decide) none 0 0 olds hs (fun _ => ⟨rfl, rfl⟩) (by omega) (fun b hb => by cases hb) ad m c news hx (by omega) hc h1c (by omega) b1 b2 grow
  · refine wpList_append_arg w hg s x t hop e i z 1 bytes h1 h2 h3 h4 h5 h6 (by decide) g 0 n cap olds hs (by omega) (fun j u hj => ?_) ad m c news hx (by omega) hc h1c (fun hroom j hj => ?_) b1 b2 (fun hroom => ?_) (fun _ => grow)
    · have hlt : j < n := by
        have := List.getElem?_eq_some_iff.1 hj
        obtain ⟨hl, _⟩ := this
        omega
      rw [Nat.zero_add, hr.cell (by omega), hof j u hj]
    · rw [show 0 + n * 1 + j = n + j from by omega, hr.cell (by omega)]
      exact ⟨rfl, hr.frozen _⟩
    · rw [show 0 + n * 1 = n from by omega]
      refine hK g cap _ hroom ⟨_, setCells_row news n w f hr, fun j u hj => ?_⟩ (Or.inl ⟨rfl, rfl, rfl⟩)
      by_cases d : j < n
      · rw [List.getElem?_append_left (by omega)] at hj
        rw [if_neg (by omega)]; exact hof j u hj
      · rw [List.getElem?_append_right (by omega)] at hj
        have hlt : j - olds.length < news.length := by
          have := List.getElem?_eq_some_iff.1 hj
          exact this.1
        rw [if_pos (by omega)]
        rw [hlo] at hj
        simp [List.getD, hj]

/-- what 'apart' asks of the lists -/
structure Lists (w : World) (B0 T : Nat) (P : Nat → Option Addr) (n c : Nat → Nat) : Prop where
  row : w.rowIs B0 24 T (fun i => .slice (P i) (n i) (c i))
  elt : ∀ i, i < T → (P i = none ∧ n i = 0 ∧ c i = 0) ∨ ∃ g, P i = some ⟨g, 0, none⟩ ∧ n i ≤ c i ∧ g ≠ B0 ∧ ∃ f, w.rowIs g 38 (c i) f
  two : ∀ i j g, i < T → j < T → P i = some ⟨g, 0, none⟩ → P j = some ⟨g, 0, none⟩ → i = j
  len : ∀ i, i < T → n i ≤ 549755813888
  few : T ≤ 1000
def Lists.X (T : Nat) (P : Nat → Option Addr) (k : Nat) : Prop := ∃ i, i < T ∧ P i = some ⟨k, 0, none⟩
def Lists.R0 (T : Nat) (P : Nat → Option Addr) (c : Nat → Nat) : List Mrk := (List.range T).filterMap (fun t => (P t).map (fun a => (a.block, c t, 0, 1000 + (t : Int))))
structure Lv (w wr : World) (T : Nat) (P : Nat → Option Addr) (c : Nat → Nat) (R : List Mrk) : Prop where
  inv : Inv wr R
  all : ∀ t g, t < T → P t = some ⟨g, 0, none⟩ → (g, c t, 0, 1000 + (t : Int)) ∈ R
  own : ∀ b cp k m, (b, cp, k, m) ∈ R → w.heap.size ≤ b ∨ Lists.X T P b
  ks : Ks w.heap.size (Lists.X T P) w wr
theorem Lists.start {w : World} {B0 T : Nat} {P : Nat → Option Addr} {n c : Nat → Nat} (h : Lists w B0 T P n c) : Lv w w T P c (Lists.R0 T P c) := by
  have hm : ∀ b cp k m, (b, cp, k, m) ∈ Lists.R0 T P c → ∃ t, t < T ∧ P t = some ⟨b, 0, none⟩ ∧ cp = c t ∧ k = 0 ∧ m = 1000 + (t : Int) := by
    intro b cp k m hm
    unfold Lists.R0 at hm
    obtain ⟨t, ht, he⟩ := List.mem_filterMap.1 hm
    have htT : t < T := List.mem_range.1 ht
    rcases h.elt t htT with ⟨h1, _, _⟩ | ⟨g, h1, _⟩
    · rw [h1] at he; cases he
    · rw [h1] at he
      simp only [Option.map_some, Option.some.injEq, Prod.mk.injEq] at he
      obtain ⟨rfl, rfl, rfl, rfl⟩ := he
      exact ⟨t, htT, h1, rfl, rfl, rfl⟩
  refine ⟨⟨fun b cp k m hh => ?_, fun b cp k m cp' k' m' h1 h2 => ?_⟩, fun t g ht hg => ?_, fun b cp k m hh => ?_, Ks.refl _ _ _⟩
  · obtain ⟨t, ht, hP, rfl, rfl, rfl⟩ := hm b cp k m hh
    rcases h.elt t ht with ⟨h1, _, _⟩ | ⟨g, h1, _, _, f, hf⟩
    · rw [h1] at hP; cases hP
    · rw [hP] at h1; cases h1
      exact ⟨f, hf, fun x hx => by omega⟩
  · obtain ⟨t, ht, hP, _, _, rfl⟩ := hm b cp k m h1
    obtain ⟨t', ht', hP', _, _, rfl⟩ := hm b cp' k' m' h2
    rw [h.two t t' b ht ht' hP hP']
  · unfold Lists.R0
    exact List.mem_filterMap.2 ⟨t, List.mem_range.2 ht, by rw [hg]; rfl⟩
  · obtain ⟨t, ht, hP, _⟩ := hm b cp k m hh
    exact Or.inr ⟨t, ht, hP⟩
theorem Lists.b0 {w wr : World} {B0 T : Nat} {P : Nat → Option Addr} {n c : Nat → Nat} (h : Lists w B0 T P n c) (k : Ks w.heap.size (Lists.X T P) w wr) : wr.rowIs B0 24 T (fun i => .slice (P i) (n i) (c i)) :=
  h.row.of_block (k.2.2.2.2 B0 h.row.lt (by
    rintro ⟨i, hi, hP⟩
    rcases h.elt i hi with ⟨h1, _, _⟩ | ⟨g, h1, _, hne, _⟩
    · rw [h1] at hP; cases hP
    · rw [h1] at hP; cases hP; exact hne rfl))
/-- a mark is written into list i's block -/
theorem Lv.write {w wr : World} {T : Nat} {P : Nat → Option Addr} {c : Nat → Nat} {R : List Mrk} (h : Lv w wr T P c R) {i g : Nat} (hi : i < T) (hP : P i = some ⟨g, 0, none⟩) (j : Nat) : Lv w (wr.setCell ⟨g, j, none⟩ (.int .u32 (1000 + (i : Int)))) T P c R :=
  ⟨h.inv.write (fun cp k m' hm => h.inv.2 g cp k m' _ _ _ hm (h.all i g hi hP)) j, h.all, h.own, h.ks.write (Or.inr ⟨i, hi, hP⟩) j _⟩

def ePs (es : List (Option Addr × Nat × Nat)) (i : Nat) : Option Addr := (es.getD i (none, 0, 0)).1
def eNs (es : List (Option Addr × Nat × Nat)) (i : Nat) : Nat := (es.getD i (none, 0, 0)).2.1
def eCs (es : List (Option Addr × Nat × Nat)) (i : Nat) : Nat := (es.getD i (none, 0, 0)).2.2
theorem Lists.of {w : World} (es : List (Option Addr × Nat × Nat)) (ho : ∀ e ∈ es, ∃ base l, Own w base (.slice e.1 e.2.1 e.2.2) l) (hd : es.Pairwise (fun a b => ∀ g, a.1 = some ⟨g, 0, none⟩ → b.1 = some ⟨g, 0, none⟩ → False)) (hl : ∀ e ∈ es, e.2.1 ≤ 549755813888) (hn : es.length ≤ 1000) : Lists (w.alloc (.cells (es.map (fun e => Value.slice e.1 e.2.1 e.2.2)).toArray 24)) w.heap.size es.length (ePs es) (eNs es) (eCs es) := by
  have get : ∀ i (h : i < es.length), es.getD i (none, 0, 0) = es[i] := fun i h => by simp [List.getD, h]
  refine ⟨?_, ?_, ?_, ?_, hn⟩
  · have hr := World.rowIs_alloc w (es.map (fun e => Value.slice e.1 e.2.1 e.2.2)).toArray 24 (fun i => .slice (ePs es i) (eNs es i) (eCs es i)) (fun i hi => by
      have hi' : i < es.length := by simpa using hi
      simp [ePs, eNs, eCs, hi'])
    simpa using hr
  · intro i hi
    obtain ⟨base, l, h⟩ := ho es[i] (List.getElem_mem hi)
    unfold ePs eNs eCs
    rw [get i hi]
    rcases h.2 with ⟨h', _⟩ | ⟨g, cap, cur, h1, h2, h3, h4, h5, h6, h7⟩
    · injection h' with e1 e2 e3
      exact Or.inl ⟨e1, e2, e3⟩
    · injection h1 with e1 e2 e3
      have hlt : g < w.heap.size := by
        by_cases c : g < w.heap.size
        · exact c
        · rw [Array.getElem?_eq_none (by simpa using c)] at h3; cases h3
      have hrow := (row_of_cells (cap := cap) h3 (by omega)).of_block (Below.heap_alloc w (.cells (es.map (fun e => Value.slice e.1 e.2.1 e.2.2)).toArray 24) g hlt)
      exact Or.inr ⟨g, e1, by omega, by omega, _, by rw [e3]; exact hrow⟩
  · intro i j g hi hj h1 h2
    unfold ePs at h1 h2
    rw [get i hi] at h1
    rw [get j hj] at h2
    have hp := List.pairwise_iff_getElem.1 hd
    rcases Nat.lt_trichotomy i j with c | c | c
    · exact (hp i j hi hj c g h1 h2).elim
    · exact c
    · exact (hp j i hj hi c g h2 h1).elim
  · intro i hi
    unfold eNs
    rw [get i hi]
    exact hl _ (List.getElem_mem hi)
theorem X_of {es : List (Option Addr × Nat × Nat)} {lo T : Nat} (hT : T = es.length) (h : ∀ e ∈ es, ∀ g, e.1 = some ⟨g, 0, none⟩ → lo ≤ g) {g : Nat} (hx : Lists.X T (ePs es) g) : lo ≤ g := by
  obtain ⟨i, hi, hP⟩ := hx
  have hi' : i < es.length := by omega
  unfold ePs at hP
  rw [show es.getD i (none, 0, 0) = es[i] from by simp [List.getD, hi']] at hP
  exact h _ (List.getElem_mem hi') g hP
theorem Ks.row {B : Nat} {X : Nat → Prop} {w w' : World} (k : Ks B X w w') {g n : Nat} {xs : List Int} (h : Rw w g n xs) (hB : g < B) (hx : ¬ X g) : Rw w' g n xs := World.rowIs.of_block h (k.2.2.2.2 g hB hx)
theorem Ks.kp {B : Nat} {X : Nat → Prop} {a w w' : World} (k : Ks B X w w') (h : Kp a w) (hB : a.heap.size ≤ B) (hx : ∀ g, X g → a.heap.size ≤ g) : Kp a w' :=
  ⟨k.1.trans h.os, k.2.1.trans h.tape, k.2.2.1.trans h.output, Nat.le_trans h.size k.2.2.2.1, fun i hi => (k.2.2.2.2 i (by omega) (fun e => by have := hx i e; omega)).trans (Below.block h i hi)⟩

theorem inf26p : ∃ i, Tryd.prog.info? 24 = some i ∧ i.zero = some (.slice none 0 0) ∧ i.size = 1 ∧ i.bytes = 24 := info_parts (by kernel_rfl : (Tryd.prog.info? 24).map (fun i => (i.zero, i.size, i.bytes)) = some (some (.slice none 0 0), 1, 24))
def Sw (B : Nat) (wr : World) (p : Option Addr) (cap : Nat) (L : List Value) : Prop := (p = none ∧ L.length = 0 ∧ cap = 0) ∨ ∃ g f, p = some ⟨g, 0, none⟩ ∧ wr.rowIs g 24 cap f ∧ L.length ≤ cap ∧ (∀ j u, L[j]? = some u → f j = u) ∧ B ≤ g
def Ch (R : List Mrk) (p : Option Addr) (len cap : Nat) (m : Int) : Prop := (p = none ∧ len = 0 ∧ cap = 0) ∨ ∃ g, p = some ⟨g, 0, none⟩ ∧ len ≤ cap ∧ (g, cap, len, m) ∈ R
theorem add_lit (g j : Nat) : (⟨g, 0, none⟩ : Addr).add j = ⟨g, j, none⟩ := by
  unfold Addr.add
  by_cases c : j = 0
  · subst c; simp
  · simp [c]
theorem rep_cell (w : World) (x : Value) (t : TypeId) (k : Nat) : ∀ j u, (List.replicate k x)[j]? = some u → (w.alloc (.cells (List.replicate k x).toArray t)).cell? ((⟨w.heap.size, 0, none⟩ : Addr).add j) = some u := by
  intro j u hj
  rw [add_lit]
  have hr := World.rowIs_alloc w (List.replicate k x).toArray t (fun _ => x) (fun i hi => by simp at hi; simp [hi])
  have hjk : j < k := by
    have := List.getElem?_eq_some_iff.1 hj
    obtain ⟨hl, _⟩ := this
    simpa using hl
  have hu : u = x := by rw [List.getElem?_replicate, if_pos hjk] at hj; exact (Option.some.inj hj).symm
  subst hu
  exact hr.cell (by simpa using hjk)
theorem rep_ok (x : Value) (k : Nat) (h : x.oneCell' = true) : ∀ u ∈ List.replicate k x, u.oneCell' = true := fun u hu => by rw [List.eq_of_mem_replicate hu]; exact h
theorem Ch.hp {w : World} {R : List Mrk} {p : Option Addr} {len cap : Nat} {m : Int} (hi : Inv w R) (h : Ch R p len cap m) : (p = none ∧ len = 0 ∧ cap = 0) ∨ ∃ g f, p = some ⟨g, 0, none⟩ ∧ w.rowIs g 38 cap f ∧ len ≤ cap ∧ ∀ j u, (List.replicate len (Value.int .u32 m))[j]? = some u → f j = u := by
  rcases h with h | ⟨g, h1, h2, h3⟩
  · exact Or.inl h
  · obtain ⟨f, hf, hx⟩ := hi.1 _ _ _ _ h3
    refine Or.inr ⟨g, f, h1, hf, h2, fun j u hj => ?_⟩
    have hjk : j < len := by
      have := List.getElem?_eq_some_iff.1 hj
      obtain ⟨hl, _⟩ := this
      simpa using hl
    rw [List.getElem?_replicate, if_pos hjk] at hj
    rw [hx j hjk]; exact Option.some.inj hj
theorem Sw.hp {B : Nat} {w : World} {p : Option Addr} {cap i : Nat} {L : List Value} (h : Sw B w p cap L) (hl : L.length = i) : (p = none ∧ i = 0 ∧ cap = 0) ∨ ∃ g f, p = some ⟨g, 0, none⟩ ∧ w.rowIs g 24 cap f ∧ i ≤ cap ∧ ∀ j u, L[j]? = some u → f j = u := by
  rcases h with ⟨h1, h2, h3⟩ | ⟨g, f, h1, h2, h3, h4, _⟩
  · exact Or.inl ⟨h1, by omega, h3⟩
  · exact Or.inr ⟨g, f, h1, h2, by omega, h4⟩
theorem Inv.arr {w : World} {R : List Mrk} (hi : Inv w R) {g cap len : Nat} {m : Int} (h : (g, cap, len, m) ∈ R) (hl : len ≤ cap) : Arr w (some ⟨g, 0, none⟩) (List.replicate len m) := by
  obtain ⟨f, hf, hx⟩ := hi.1 _ _ _ _ h
  refine Or.inr ⟨g, 0, rfl, fun j hj => ?_⟩
  have hjk : j < len := by simpa using hj
  rw [Nat.zero_add, hf.cell (by omega), hx j hjk]
  simp [List.getD, hjk]
theorem two_types {w : World} {g g' n n' : Nat} {f f' : Nat → Value} (h : w.rowIs g 38 n f) (h' : w.rowIs g' 24 n' f') : g ≠ g' := by
  rintro rfl
  obtain ⟨c, h1, _⟩ := h
  obtain ⟨c', h2, _⟩ := h'
  rw [h1] at h2
  simp at h2
theorem setCells_block {g k : Nat} (hne : k ≠ g) : ∀ (vs : List Value) (j : Nat) (w : World), (w.setCells g j vs).heap[k]? = w.heap[k]?
  | [], _, _ => rfl
  | v :: vs, j, w => by
    rw [World.setCells, setCells_block hne vs (j + 1)]
    exact Below.heap_setCell w ⟨g, j, none⟩ v k hne
theorem Sw.of_block {B : Nat} {w w' : World} {p : Option Addr} {cap : Nat} {L : List Value} (h : Sw B w p cap L) (hb : ∀ g, p = some ⟨g, 0, none⟩ → g < w.heap.size → w'.heap[g]? = w.heap[g]?) : Sw B w' p cap L := by
  rcases h with h | ⟨g, f, h1, h2, h3⟩
  · exact Or.inl h
  · exact Or.inr ⟨g, f, h1, h2.of_block (hb g h1 h2.lt), h3⟩
structure St (w wr : World) (T : Nat) (P : Nat → Option Addr) (n c : Nat → Nat) (R : List Mrk) (si qi : Nat) (sp qp : Option Addr) (sc qc : Nat) (S Q : List Value) : Prop where
  lv : Lv w wr T P c R
  ful : ∀ t g, t < T → P t = some ⟨g, 0, none⟩ → (g, c t, n t, 1000 + (t : Int)) ∈ R
  ss : Sw w.heap.size wr sp sc S
  qs : Sw w.heap.size wr qp qc Q
  ap : ∀ g, sp = some ⟨g, 0, none⟩ → qp ≠ some ⟨g, 0, none⟩
  sl : S.length = si
  ql : Q.length = qi
  sm : ∀ t, t < si → ∃ a cp, S[t]? = some (.slice (some ⟨a, 0, none⟩) (n t + 16) cp) ∧ n t + 16 ≤ cp ∧ (a, cp, n t + 16, 1000 + (t : Int)) ∈ R
  qm : ∀ t, t < qi → ∃ a cp, Q[t]? = some (.slice (some ⟨a, 0, none⟩) (n t + 48) cp) ∧ n t + 48 ≤ cp ∧ (a, cp, n t + 48, 1000 + (t : Int)) ∈ R
variable {w wr w' : World} {T : Nat} {P : Nat → Option Addr} {n c : Nat → Nat} {R : List Mrk} {si qi : Nat} {sp qp : Option Addr} {sc qc : Nat} {S Q : List Value}
theorem St.alloc (h : St w wr T P n c R si qi sp qp sc qc S Q) (o : Obj) : St w (wr.alloc o) T P n c R si qi sp qp sc qc S Q :=
  ⟨⟨h.lv.inv.alloc o, h.lv.all, h.lv.own, h.lv.ks.alloc (Nat.le_refl _) o⟩, h.ful, h.ss.of_block (fun g _ hg => Below.heap_alloc wr o g hg), h.qs.of_block (fun g _ hg => Below.heap_alloc wr o g hg), h.ap, h.sl, h.ql, h.sm, h.qm⟩
/-- behind an append of marks -/
theorem St.marks (h : St w wr T P n c R si qi sp qp sc qc S Q) {p : Option Addr} {len cap : Nat} {m : Int} (hc : Ch R p len cap m) {s g' cap' : Nat} {f : Nat → Value} (hf : w'.rowIs g' 38 cap' f) (hfm : ∀ j u, (List.replicate len (.int .u32 m) ++ List.replicate s (.int .u32 m) : List Value)[j]? = some u → f j = u)
    (ho : (p = some ⟨g', 0, none⟩ ∧ cap' = cap ∧ w' = wr.setCells g' len (List.replicate s (.int .u32 m))) ∨ (wr.heap.size ≤ g' ∧ wr.grownBy w' none)) : St w w' T P n c ((g', cap', len + s, m) :: R) si qi sp qp sc qc S Q := by
  have hrow : ∃ f, w'.rowIs g' 38 cap' f ∧ ∀ x, x < len + s → f x = .int .u32 m := ⟨f, hf, fun x hx => hfm x _ (by rw [List.replicate_append_replicate, List.getElem?_replicate, if_pos hx])⟩
  have mem : ∀ {r : Mrk}, r ∈ R → r ∈ (g', cap', len + s, m) :: R := fun hr => List.mem_cons_of_mem _ hr
  rcases ho with ⟨hp, rfl, rfl⟩ | ⟨hge, hgb⟩
  · have hin : (g', cap', len, m) ∈ R := by
      rcases hc with ⟨h1, _, _⟩ | ⟨g, h1, _, h3⟩
      · rw [h1] at hp; cases hp
      · rw [h1] at hp; cases hp; exact h3
    have hcol : ∀ cp k m', (g', cp, k, m') ∈ R → m' = m := fun cp k m' hm => h.lv.inv.2 g' cp k m' _ _ _ hm hin
    obtain ⟨f0, hr0, _⟩ := h.lv.inv.1 _ _ _ _ hin
    have hsw : ∀ {p' : Option Addr} {cap'' : Nat} {L : List Value}, Sw w.heap.size wr p' cap'' L → Sw w.heap.size (wr.setCells g' len (List.replicate s (.int .u32 m))) p' cap'' L := fun hS => by
      rcases hS with h0 | ⟨g, f1, h1, h2, h3⟩
      · exact Or.inl h0
      · exact Or.inr ⟨g, f1, h1, h2.of_block (setCells_block (Ne.symm (two_types hr0 h2)) _ _ _), h3⟩
    exact ⟨⟨(Inv.writes s len wr h.lv.inv hcol).cons hrow hcol, fun t g ht hg => mem (h.lv.all t g ht hg), fun b cp k m' hm => by
      rcases List.mem_cons.1 hm with e | e
      · cases e; exact h.lv.own _ _ _ _ hin
      · exact h.lv.own _ _ _ _ e, Ks.writes (h.lv.own _ _ _ _ hin) _ _ _ h.lv.ks⟩, fun t g ht hg => mem (h.ful t g ht hg), hsw h.ss, hsw h.qs, h.ap, h.sl, h.ql,
      fun t ht => by obtain ⟨a, cp, h1, h2⟩ := h.sm t ht; exact ⟨a, cp, h1, h2.1, mem h2.2⟩, fun t ht => by obtain ⟨a, cp, h1, h2⟩ := h.qm t ht; exact ⟨a, cp, h1, h2.1, mem h2.2⟩⟩
  · have hsz : w.heap.size ≤ wr.heap.size := h.lv.ks.2.2.2.1
    have hsw : ∀ {p' : Option Addr} {cap'' : Nat} {L : List Value}, Sw w.heap.size wr p' cap'' L → Sw w.heap.size w' p' cap'' L := fun hS => hS.of_block (fun g _ hg => hgb.block g hg (by simp))
    exact ⟨⟨(h.lv.inv.by hgb (fun _ _ _ _ _ => by simp)).cons hrow (fun cp k m' hm => by have := h.lv.inv.lt hm; omega), fun t g ht hg => mem (h.lv.all t g ht hg), fun b cp k m' hm => by
      rcases List.mem_cons.1 hm with e | e
      · cases e; exact Or.inl (by omega)
      · exact h.lv.own _ _ _ _ e, h.lv.ks.by (Nat.le_refl _) hgb (fun k hk => by cases hk)⟩, fun t g ht hg => mem (h.ful t g ht hg), hsw h.ss, hsw h.qs, h.ap, h.sl, h.ql,
      fun t ht => by obtain ⟨a, cp, h1, h2⟩ := h.sm t ht; exact ⟨a, cp, h1, h2.1, mem h2.2⟩, fun t ht => by obtain ⟨a, cp, h1, h2⟩ := h.qm t ht; exact ⟨a, cp, h1, h2.1, mem h2.2⟩⟩
theorem keep26 (h : St w wr T P n c R si qi sp qp sc qc S Q) {g' k0 : Nat} {vs : List Value} {f0 : Nat → Value} {cap0 : Nat} (hg : wr.rowIs g' 24 cap0 f0) (hb : w.heap.size ≤ g') : Lv w (wr.setCells g' k0 vs) T P c R :=
  ⟨h.lv.inv.of_blocks (fun b cp k m hm => by
    obtain ⟨f, h1, _⟩ := h.lv.inv.1 b cp k m hm
    exact setCells_block (two_types h1 hg) _ _ _), h.lv.all, h.lv.own, Ks.writes (Or.inl hb) _ _ _ h.lv.ks⟩
/-- behind an append of a list to 'slow' -/
theorem St.slow (h : St w wr T P n c R si qi sp qp sc qc S Q) {u : Value} (hu : ∃ a cp, u = .slice (some ⟨a, 0, none⟩) (n si + 16) cp ∧ n si + 16 ≤ cp ∧ (a, cp, n si + 16, 1000 + (si : Int)) ∈ R) {g' cap' : Nat} {f : Nat → Value} (hle : si + 1 ≤ cap') (hf : w'.rowIs g' 24 cap' f) (hfm : ∀ j v, (S ++ [u])[j]? = some v → f j = v)
    (ho : (sp = some ⟨g', 0, none⟩ ∧ cap' = sc ∧ w' = wr.setCells g' si [u]) ∨ (wr.heap.size ≤ g' ∧ wr.grownBy w' none)) : St w w' T P n c R (si + 1) qi (some ⟨g', 0, none⟩) qp cap' qc (S ++ [u]) Q := by
  have hsl : (S ++ [u]).length = si + 1 := by rw [List.length_append, h.sl]; rfl
  have hsz : w.heap.size ≤ wr.heap.size := h.lv.ks.2.2.2.1
  have hsm : ∀ t, t < si + 1 → ∃ a cp, (S ++ [u])[t]? = some (.slice (some ⟨a, 0, none⟩) (n t + 16) cp) ∧ n t + 16 ≤ cp ∧ (a, cp, n t + 16, 1000 + (t : Int)) ∈ R := fun t ht => by
    by_cases d : t < si
    · obtain ⟨a, cp, h1, h2⟩ := h.sm t d
      exact ⟨a, cp, by rw [List.getElem?_append_left (by rw [h.sl]; exact d)]; exact h1, h2⟩
    · obtain ⟨a, cp, h1, h2⟩ := hu
      have e : t = si := by omega
      subst e
      exact ⟨a, cp, by rw [← h.sl, List.getElem?_append_right (Nat.le_refl _), Nat.sub_self, h1]; simp [h.sl], h2⟩
  have qlt : ∀ g, qp = some ⟨g, 0, none⟩ → g < wr.heap.size := fun g hg => by
    rcases h.qs with ⟨h1, _, _⟩ | ⟨g1, f1, h1, h2, _⟩
    · rw [h1] at hg; cases hg
    · rw [h1] at hg; cases hg; exact h2.lt
  rcases ho with ⟨hp, rfl, rfl⟩ | ⟨hge, hgb⟩
  · obtain ⟨f0, hr0, hB⟩ : ∃ f0, wr.rowIs g' 24 cap' f0 ∧ w.heap.size ≤ g' := by
      rcases h.ss with ⟨h1, _, _⟩ | ⟨g, f1, h1, h2, _, _, h5⟩
      · rw [h1] at hp; cases hp
      · rw [h1] at hp; cases hp; exact ⟨f1, h2, h5⟩
    refine ⟨keep26 h hr0 hB, h.ful, Or.inr ⟨g', f, rfl, hf, by omega, hfm, hB⟩, h.qs.of_block (fun g hg _ => setCells_block (fun e => h.ap g' hp (by rw [hg, e])) _ _ _), fun g hg => by cases hg; exact h.ap g' hp, hsl, h.ql, hsm, h.qm⟩
  · refine ⟨⟨h.lv.inv.by hgb (fun _ _ _ _ _ => by simp), h.lv.all, h.lv.own, h.lv.ks.by (Nat.le_refl _) hgb (fun k hk => by cases hk)⟩, h.ful, Or.inr ⟨g', f, rfl, hf, by omega, hfm, by omega⟩, h.qs.of_block (fun g _ hg => hgb.block g hg (by simp)), fun g hg e => by cases hg; have := qlt _ e; omega, hsl, h.ql, hsm, h.qm⟩
theorem St.swap (h : St w wr T P n c R si qi sp qp sc qc S Q) (g : Nat) (hg : qp = some ⟨g, 0, none⟩) : sp ≠ some ⟨g, 0, none⟩ := fun e => h.ap g e hg
/-- and to 'quick' -/
theorem St.quick (h : St w wr T P n c R si qi sp qp sc qc S Q) {u : Value} (hu : ∃ a cp, u = .slice (some ⟨a, 0, none⟩) (n qi + 48) cp ∧ n qi + 48 ≤ cp ∧ (a, cp, n qi + 48, 1000 + (qi : Int)) ∈ R) {g' cap' : Nat} {f : Nat → Value} (hle : qi + 1 ≤ cap') (hf : w'.rowIs g' 24 cap' f) (hfm : ∀ j v, (Q ++ [u])[j]? = some v → f j = v)
    (ho : (qp = some ⟨g', 0, none⟩ ∧ cap' = qc ∧ w' = wr.setCells g' qi [u]) ∨ (wr.heap.size ≤ g' ∧ wr.grownBy w' none)) : St w w' T P n c R si (qi + 1) sp (some ⟨g', 0, none⟩) sc cap' S (Q ++ [u]) := by
  have hsl : (Q ++ [u]).length = qi + 1 := by rw [List.length_append, h.ql]; rfl
  have hsz : w.heap.size ≤ wr.heap.size := h.lv.ks.2.2.2.1
  have hsm : ∀ t, t < qi + 1 → ∃ a cp, (Q ++ [u])[t]? = some (.slice (some ⟨a, 0, none⟩) (n t + 48) cp) ∧ n t + 48 ≤ cp ∧ (a, cp, n t + 48, 1000 + (t : Int)) ∈ R := fun t ht => by
    by_cases d : t < qi
    · obtain ⟨a, cp, h1, h2⟩ := h.qm t d
      exact ⟨a, cp, by rw [List.getElem?_append_left (by rw [h.ql]; exact d)]; exact h1, h2⟩
    · obtain ⟨a, cp, h1, h2⟩ := hu
      have e : t = qi := by omega
      subst e
      exact ⟨a, cp, by rw [← h.ql, List.getElem?_append_right (Nat.le_refl _), Nat.sub_self, h1]; simp [h.ql], h2⟩
  have qlt : ∀ g, sp = some ⟨g, 0, none⟩ → g < wr.heap.size := fun g hg => by
    rcases h.ss with ⟨h1, _, _⟩ | ⟨g1, f1, h1, h2, _⟩
    · rw [h1] at hg; cases hg
    · rw [h1] at hg; cases hg; exact h2.lt
  rcases ho with ⟨hp, rfl, rfl⟩ | ⟨hge, hgb⟩
  · obtain ⟨f0, hr0, hB⟩ : ∃ f0, wr.rowIs g' 24 cap' f0 ∧ w.heap.size ≤ g' := by
      rcases h.qs with ⟨h1, _, _⟩ | ⟨g, f1, h1, h2, _, _, h5⟩
      · rw [h1] at hp; cases hp
      · rw [h1] at hp; cases hp; exact ⟨f1, h2, h5⟩
    refine ⟨keep26 h hr0 hB, h.ful, h.ss.of_block (fun g hg _ => setCells_block (fun e => h.ap g hg (by rw [hp, e])) _ _ _), Or.inr ⟨g', f, rfl, hf, by omega, hfm, hB⟩, fun g hg e => by cases e; exact h.ap _ hg hp, h.sl, hsl, h.sm, hsm⟩
  · refine ⟨⟨h.lv.inv.by hgb (fun _ _ _ _ _ => by simp), h.lv.all, h.lv.own, h.lv.ks.by (Nat.le_refl _) hgb (fun k hk => by cases hk)⟩, h.ful, h.ss.of_block (fun g _ hg => hgb.block g hg (by simp)), Or.inr ⟨g', f, rfl, hf, by omega, hfm, by omega⟩, fun g hg e => by cases e; have := qlt _ hg; omega, h.sl, hsl, h.sm, hsm⟩
end Go.Proofs.YtjblehmafjcncaaDoor
