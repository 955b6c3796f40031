import Derived.Test.YtakcpoapokacgabDoorProg
import Derived.Test.YtakcpoapokacgabDoorA
import Derived.Test.YtakcpoapokacgabDoorA2
import Derived.Test.YtakcpoapokacgabDoorA4
import Derived.Test.YtakcpoapokacgabDoorA7
import Derived.Test.YtakcpoapokacgabDoorAR
import Derived.WalkKit
import Derived.ProofKit
import Derived.RowKit3
import Derived.WalkSpells
import Derived.StillTactics
import Derived.Deep.QuietTactic
import Derived.BigQuiet
import Derived.Below
import Derived.Deep.OwnRows
import Derived.OwnWalk
namespace Go.Proofs.YtakcpoapokacgabDoor
open Go.RowKit

theorem inf26p : ∃ i, Tryd.prog.info? 22 = some i ∧ i.zero = some (.slice none 0 0) ∧ i.size = 1 ∧ i.bytes = 24 := info_parts (by kernel_rfl : (Tryd.prog.info? 22).map (fun i => (i.zero, i.size, i.bytes)) = some (some (.slice none 0 0), 1, 24))
def Sw (B : Nat) (wr : World) (p : Option Addr) (cap : Nat) (L : List Value) : Prop := (p = none ∧ L.length = 0 ∧ cap = 0) ∨ ∃ g f, p = some ⟨g, 0, none⟩ ∧ wr.rowIs g 22 cap f ∧ L.length ≤ cap ∧ (∀ j u, L[j]? = some u → f j = u) ∧ B ≤ g
def Ch (R : List Mrk) (p : Option Addr) (len cap : Nat) (m : Int) : Prop := (p = none ∧ len = 0 ∧ cap = 0) ∨ ∃ g, p = some ⟨g, 0, none⟩ ∧ len ≤ cap ∧ (g, cap, len, m) ∈ R
theorem add_lit (g j : Nat) : (⟨g, 0, none⟩ : Addr).add j = ⟨g, j, none⟩ := by
  unfold Addr.add
  by_cases c : j = 0
  · subst c; simp
  · simp [c]
theorem rep_cell (w : World) (x : Value) (t : TypeId) (k : Nat) : ∀ j u, (List.replicate k x)[j]? = some u → (w.alloc (.cells (List.replicate k x).toArray t)).cell? ((⟨w.heap.size, 0, none⟩ : Addr).add j) = some u := by
  intro j u hj
  rw [add_lit]
  have hr := World.rowIs_alloc w (List.replicate k x).toArray t (fun _ => x) (fun i hi => by simp at hi; simp [hi])
  have hjk : j < k := by
    have := List.getElem?_eq_some_iff.1 hj
    obtain ⟨hl, _⟩ := this
    simpa using hl
  have hu : u = x := by rw [List.getElem?_replicate, if_pos hjk] at hj; exact (Option.some.inj hj).symm
  subst hu
  exact hr.cell (by simpa using hjk)
theorem rep_ok (x : Value) (k : Nat) (h : x.oneCell' = true) : ∀ u ∈ List.replicate k x, u.oneCell' = true := fun u hu => by rw [List.eq_of_mem_replicate hu]; exact h
theorem Ch.hp {w : World} {R : List Mrk} {p : Option Addr} {len cap : Nat} {m : Int} (hi : Inv w R) (h : Ch R p len cap m) : (p = none ∧ len = 0 ∧ cap = 0) ∨ ∃ g f, p = some ⟨g, 0, none⟩ ∧ w.rowIs g 37 cap f ∧ len ≤ cap ∧ ∀ j u, (List.replicate len (Value.int .u32 m))[j]? = some u → f j = u := by
  rcases h with h | ⟨g, h1, h2, h3⟩
  · exact Or.inl h
  · obtain ⟨f, hf, hx⟩ := hi.1 _ _ _ _ h3
    refine Or.inr ⟨g, f, h1, hf, h2, fun j u hj => ?_⟩
    have hjk : j < len := by
      have := List.getElem?_eq_some_iff.1 hj
      obtain ⟨hl, _⟩ := this
      simpa using hl
    rw [List.getElem?_replicate, if_pos hjk] at hj
    rw [hx j hjk]; exact Option.some.inj hj
theorem Sw.hp {B : Nat} {w : World} {p : Option Addr} {cap i : Nat} {L : List Value} (h : Sw B w p cap L) (hl : L.length = i) : (p = none ∧ i = 0 ∧ cap = 0) ∨ ∃ g f, p = some ⟨g, 0, none⟩ ∧ w.rowIs g 22 cap f ∧ i ≤ cap ∧ ∀ j u, L[j]? = some u → f j = u := by
  rcases h with ⟨h1, h2, h3⟩ | ⟨g, f, h1, h2, h3, h4, _⟩
  · exact Or.inl ⟨h1, by omega, h3⟩
  · exact Or.inr ⟨g, f, h1, h2, by omega, h4⟩
theorem Inv.arr {w : World} {R : List Mrk} (hi : Inv w R) {g cap len : Nat} {m : Int} (h : (g, cap, len, m) ∈ R) (hl : len ≤ cap) : Arr w (some ⟨g, 0, none⟩) (List.replicate len m) := by
  obtain ⟨f, hf, hx⟩ := hi.1 _ _ _ _ h
  refine Or.inr ⟨g, 0, rfl, fun j hj => ?_⟩
  have hjk : j < len := by simpa using hj
  rw [Nat.zero_add, hf.cell (by omega), hx j hjk]
  simp [List.getD, hjk]
theorem two_types {w : World} {g g' n n' : Nat} {f f' : Nat → Value} (h : w.rowIs g 37 n f) (h' : w.rowIs g' 22 n' f') : g ≠ g' := by
  rintro rfl
  obtain ⟨c, h1, _⟩ := h
  obtain ⟨c', h2, _⟩ := h'
  rw [h1] at h2
  simp at h2
theorem setCells_block {g k : Nat} (hne : k ≠ g) : ∀ (vs : List Value) (j : Nat) (w : World), (w.setCells g j vs).heap[k]? = w.heap[k]?
  | [], _, _ => rfl
  | v :: vs, j, w => by
    rw [World.setCells, setCells_block hne vs (j + 1)]
    exact Below.heap_setCell w ⟨g, j, none⟩ v k hne
theorem Sw.of_block {B : Nat} {w w' : World} {p : Option Addr} {cap : Nat} {L : List Value} (h : Sw B w p cap L) (hb : ∀ g, p = some ⟨g, 0, none⟩ → g < w.heap.size → w'.heap[g]? = w.heap[g]?) : Sw B w' p cap L := by
  rcases h with h | ⟨g, f, h1, h2, h3⟩
  · exact Or.inl h
  · exact Or.inr ⟨g, f, h1, h2.of_block (hb g h1 h2.lt), h3⟩
structure St (w wr : World) (T : Nat) (P : Nat → Option Addr) (n c : Nat → Nat) (R : List Mrk) (si qi : Nat) (sp qp : Option Addr) (sc qc : Nat) (S Q : List Value) : Prop where
  lv : Lv w wr T P c R
  ful : ∀ t g, t < T → P t = some ⟨g, 0, none⟩ → (g, c t, n t, 1000 + (t : Int)) ∈ R
  ss : Sw w.heap.size wr sp sc S
  qs : Sw w.heap.size wr qp qc Q
  ap : ∀ g, sp = some ⟨g, 0, none⟩ → qp ≠ some ⟨g, 0, none⟩
  sl : S.length = si
  ql : Q.length = qi
  sm : ∀ t, t < si → ∃ a cp, S[t]? = some (.slice (some ⟨a, 0, none⟩) (n t + 16) cp) ∧ n t + 16 ≤ cp ∧ (a, cp, n t + 16, 1000 + (t : Int)) ∈ R
  qm : ∀ t, t < qi → ∃ a cp, Q[t]? = some (.slice (some ⟨a, 0, none⟩) (n t + 48) cp) ∧ n t + 48 ≤ cp ∧ (a, cp, n t + 48, 1000 + (t : Int)) ∈ R
variable {w wr w' : World} {T : Nat} {P : Nat → Option Addr} {n c : Nat → Nat} {R : List Mrk} {si qi : Nat} {sp qp : Option Addr} {sc qc : Nat} {S Q : List Value}
theorem St.alloc (h : St w wr T P n c R si qi sp qp sc qc S Q) (o : Obj) : St w (wr.alloc o) T P n c R si qi sp qp sc qc S Q :=
  ⟨⟨h.lv.inv.alloc o, h.lv.all, h.lv.own, h.lv.ks.alloc (Nat.le_refl _) o⟩, h.ful, h.ss.of_block (fun g _ hg => Below.heap_alloc wr o g hg), h.qs.of_block (fun g _ hg => Below.heap_alloc wr o g hg), h.ap, h.sl, h.ql, h.sm, h.qm⟩
/-- behind an append of marks -/
theorem St.marks (h : St w wr T P n c R si qi sp qp sc qc S Q) {p : Option Addr} {len cap : Nat} {m : Int} (hc : Ch R p len cap m) {s g' cap' : Nat} {f : Nat → Value} (hf : w'.rowIs g' 37 cap' f) (hfm : ∀ j u, (List.replicate len (.int .u32 m) ++ List.replicate s (.int .u32 m) : List Value)[j]? = some u → f j = u)
    (ho : (p = some ⟨g', 0, none⟩ ∧ cap' = cap ∧ w' = wr.setCells g' len (List.replicate s (.int .u32 m))) ∨ (wr.heap.size ≤ g' ∧ wr.grownBy w' none)) : St w w' T P n c ((g', cap', len + s, m) :: R) si qi sp qp sc qc S Q := by
  have hrow : ∃ f, w'.rowIs g' 37 cap' f ∧ ∀ x, x < len + s → f x = .int .u32 m := ⟨f, hf, fun x hx => hfm x _ (by rw [List.replicate_append_replicate, List.getElem?_replicate, if_pos hx])⟩
  have mem : ∀ {r : Mrk}, r ∈ R → r ∈ (g', cap', len + s, m) :: R := fun hr => List.mem_cons_of_mem _ hr
  rcases ho with ⟨hp, rfl, rfl⟩ | ⟨hge, hgb⟩
  · have hin : (g', cap', len, m) ∈ R := by
      rcases hc with ⟨h1, _, _⟩ | ⟨g, h1, _, h3⟩
      · rw [h1] at hp; cases hp
      · rw [h1] at hp; cases hp; exact h3
    have hcol : ∀ cp k m', (g', cp, k, m') ∈ R → m' = m := fun cp k m' hm => h.lv.inv.2 g' cp k m' _ _ _ hm hin
    obtain ⟨f0, hr0, _⟩ := h.lv.inv.1 _ _ _ _ hin
    have hsw : ∀ {p' : Option Addr} {cap'' : Nat} {L : List Value}, Sw w.heap.size wr p' cap'' L → Sw w.heap.size (wr.setCells g' len (List.replicate s (.int .u32 m))) p' cap'' L := fun hS => by
      rcases hS with h0 | ⟨g, f1, h1, h2, h3⟩
      · exact Or.inl h0
      · exact Or.inr ⟨g, f1, h1, h2.of_block (setCells_block (Ne.symm (two_types hr0 h2)) _ _ _), h3⟩
    exact ⟨⟨(Inv.writes s len wr h.lv.inv hcol).cons hrow hcol, fun t g ht hg => mem (h.lv.all t g ht hg), fun b cp k m' hm => by
      rcases List.mem_cons.1 hm with e | e
      · cases e; exact h.lv.own _ _ _ _ hin
      · exact h.lv.own _ _ _ _ e, Ks.writes (h.lv.own _ _ _ _ hin) _ _ _ h.lv.ks⟩, fun t g ht hg => mem (h.ful t g ht hg), hsw h.ss, hsw h.qs, h.ap, h.sl, h.ql,
      fun t ht => by obtain ⟨a, cp, h1, h2⟩ := h.sm t ht; exact ⟨a, cp, h1, h2.1, mem h2.2⟩, fun t ht => by obtain ⟨a, cp, h1, h2⟩ := h.qm t ht; exact ⟨a, cp, h1, h2.1, mem h2.2⟩⟩
  · have hsz : w.heap.size ≤ wr.heap.size := h.lv.ks.2.2.2.1
    have hsw : ∀ {p' : Option Addr} {cap'' : Nat} {L : List Value}, Sw w.heap.size wr p' cap'' L → Sw w.heap.size w' p' cap'' L := fun hS => hS.of_block (fun g _ hg => hgb.block g hg (by simp))
    exact ⟨⟨(h.lv.inv.by hgb (fun _ _ _ _ _ => by simp)).cons hrow (fun cp k m' hm => by have := h.lv.inv.lt hm; omega), fun t g ht hg => mem (h.lv.all t g ht hg), fun b cp k m' hm => by
      rcases List.mem_cons.1 hm with e | e
      · cases e; exact Or.inl (by omega)
      · exact h.lv.own _ _ _ _ e, h.lv.ks.by (Nat.le_refl _) hgb (fun k hk => by cases hk)⟩, fun t g ht hg => mem (h.ful t g ht hg), hsw h.ss, hsw h.qs, h.ap, h.sl, h.ql,
      fun t ht => by obtain ⟨a, cp, h1, h2⟩ := h.sm t ht; exact ⟨a, cp, h1, h2.1, mem h2.2⟩, fun t ht => by obtain ⟨a, cp, h1, h2⟩ := h.qm t ht; exact ⟨a, cp, h1, h2.1, mem h2.2⟩⟩
theorem keep26 (h : St w wr T P n c R si qi sp qp sc qc S Q) {g' k0 : Nat} {vs : List Value} {f0 : Nat → Value} {cap0 : Nat} (hg : wr.rowIs g' 22 cap0 f0) (hb : w.heap.size ≤ g') : Lv w (wr.setCells g' k0 vs) T P c R :=
  ⟨h.lv.inv.of_blocks (fun b cp k m hm => by
    obtain ⟨f, h1, _⟩ := h.lv.inv.1 b cp k m hm
    exact setCells_block (two_types h1 hg) _ _ _), h.lv.all, h.lv.own, Ks.writes (Or.inl hb) _ _ _ h.lv.ks⟩
/-- behind an append of a list to 'slow' -/
theorem St.slow (h : St w wr T P n c R si qi sp qp sc qc S Q) {u : Value} (hu : ∃ a cp, u = .slice (some ⟨a, 0, none⟩) (n si + 16) cp ∧ n si + 16 ≤ cp ∧ (a, cp, n si + 16, 1000 + (si : Int)) ∈ R) {g' cap' : Nat} {f : Nat → Value} (hle : si + 1 ≤ cap') (hf : w'.rowIs g' 22 cap' f) (hfm : ∀ j v, (S ++ [u])[j]? = some v → f j = v)
    (ho : (sp = some ⟨g', 0, none⟩ ∧ cap' = sc ∧ w' = wr.setCells g' si [u]) ∨ (wr.heap.size ≤ g' ∧ wr.grownBy w' none)) : St w w' T P n c R (si + 1) qi (some ⟨g', 0, none⟩) qp cap' qc (S ++ [u]) Q := by
  have hsl : (S ++ [u]).length = si + 1 := by rw [List.length_append, h.sl]; rfl
  have hsz : w.heap.size ≤ wr.heap.size := h.lv.ks.2.2.2.1
  have hsm : ∀ t, t < si + 1 → ∃ a cp, (S ++ [u])[t]? = some (.slice (some ⟨a, 0, none⟩) (n t + 16) cp) ∧ n t + 16 ≤ cp ∧ (a, cp, n t + 16, 1000 + (t : Int)) ∈ R := fun t ht => by
    by_cases d : t < si
    · obtain ⟨a, cp, h1, h2⟩ := h.sm t d
      exact ⟨a, cp, by rw [List.getElem?_append_left (by rw [h.sl]; exact d)]; exact h1, h2⟩
    · obtain ⟨a, cp, h1, h2⟩ := hu
      have e : t = si := by omega
      subst e
      exact ⟨a, cp, by rw [← h.sl, List.getElem?_append_right (Nat.le_refl _), Nat.sub_self, h1]; simp [h.sl], h2⟩
  have qlt : ∀ g, qp = some ⟨g, 0, none⟩ → g < wr.heap.size := fun g hg => by
    rcases h.qs with ⟨h1, _, _⟩ | ⟨g1, f1, h1, h2, _⟩
    · rw [h1] at hg; cases hg
    · rw [h1] at hg; cases hg; exact h2.lt
  rcases ho with ⟨hp, rfl, rfl⟩ | ⟨hge, hgb⟩
  · obtain ⟨f0, hr0, hB⟩ : ∃ f0, wr.rowIs g' 22 cap' f0 ∧ w.heap.size ≤ g' := by
      rcases h.ss with ⟨h1, _, _⟩ | ⟨g, f1, h1, h2, _, _, h5⟩
      · rw [h1] at hp; cases hp
      · rw [h1] at hp; cases hp; exact ⟨f1, h2, h5⟩
    refine ⟨keep26 h hr0 hB, h.ful, Or.inr ⟨g', f, rfl, hf, by omega, hfm, hB⟩, h.qs.of_block (fun g hg _ => setCells_block (fun e => h.ap g' hp (by rw [hg, e])) _ _ _), fun g hg => by cases hg; exact h.ap g' hp, hsl, h.ql, hsm, h.qm⟩
  · refine ⟨⟨h.lv.inv.by hgb (fun _ _ _ _ _ => by simp), h.lv.all, h.lv.own, h.lv.ks.by (Nat.le_refl _) hgb (fun k hk => by cases hk)⟩, h.ful, Or.inr ⟨g', f, rfl, hf, by omega, hfm, by omega⟩, h.qs.of_block (fun g _ hg => hgb.block g hg (by simp)), fun g hg e => by cases hg; have := qlt _ e; omega, hsl, h.ql, hsm, h.qm⟩
theorem St.swap (h : St w wr T P n c R si qi sp qp sc qc S Q) (g : Nat) (hg : qp = some ⟨g, 0, none⟩) : sp ≠ some ⟨g, 0, none⟩ := fun e => h.ap g e hg
/-- and to 'quick' -/
theorem St.quick (h : St w wr T P n c R si qi sp qp sc qc S Q) {u : Value} (hu : ∃ a cp, u = .slice (some ⟨a, 0, none⟩) (n qi + 48) cp ∧ n qi + 48 ≤ cp ∧ (a, cp, n qi + 48, 1000 + (qi : Int)) ∈ R) {g' cap' : Nat} {f : Nat → Value} (hle : qi + 1 ≤ cap') (hf : w'.rowIs g' 22 cap' f) (hfm : ∀ j v, (Q ++ [u])[j]? = some v → f j = v)
    (ho : (qp = some ⟨g', 0, none⟩ ∧ cap' = qc ∧ w' = wr.setCells g' qi [u]) ∨ (wr.heap.size ≤ g' ∧ wr.grownBy w' none)) : St w w' T P n c R si (qi + 1) sp (some ⟨g', 0, none⟩) sc cap' S (Q ++ [u]) := by
  have hsl : (Q ++ [u]).length = qi + 1 := by rw [List.length_append, h.ql]; rfl
  have hsz : w.heap.size ≤ wr.heap.size := h.lv.ks.2.2.2.1
  have hsm : ∀ t, t < qi + 1 → ∃ a cp, (Q ++ [u])[t]? = some (.slice (some ⟨a, 0, none⟩) (n t + 48) cp) ∧ n t + 48 ≤ cp ∧ (a, cp, n t + 48, 1000 + (t : Int)) ∈ R := fun t ht => by
    by_cases d : t < qi
    · obtain ⟨a, cp, h1, h2⟩ := h.qm t d
      exact ⟨a, cp, by rw [List.getElem?_append_left (by rw [h.ql]; exact d)]; exact h1, h2⟩
    · obtain ⟨a, cp, h1, h2⟩ := hu
      have e : t = qi := by omega
      subst e
      exact ⟨a, cp, by rw [← h.ql, List.getElem?_append_right (Nat.le_refl _), Nat.sub_self, h1]; simp [h.ql], h2⟩
  have qlt : ∀ g, sp = some ⟨g, 0, none⟩ → g < wr.heap.size := fun g hg => by
    rcases h.ss with ⟨h1, _, _⟩ | ⟨g1, f1, h1, h2, _⟩
    · rw [h1] at hg; cases hg
    · rw [h1] at hg; cases hg; exact h2.lt
  rcases ho with ⟨hp, rfl, rfl⟩ | ⟨hge, hgb⟩
  · obtain ⟨f0, hr0, hB⟩ : ∃ f0, wr.rowIs g' 22 cap' f0 ∧ w.heap.size ≤ g' := by
      rcases h.qs with ⟨h1, _, _⟩ | ⟨g, f1, h1, h2, _, _, h5⟩
      · rw [h1] at hp; cases hp
      · rw [h1] at hp; cases hp; exact ⟨f1, h2, h5⟩
    refine ⟨keep26 h hr0 hB, h.ful, h.ss.of_block (fun g hg _ => setCells_block (fun e => h.ap g hg (by rw [hp, e])) _ _ _), Or.inr ⟨g', f, rfl, hf, by omega, hfm, hB⟩, fun g hg e => by cases e; exact h.ap _ hg hp, h.sl, hsl, h.sm, hsm⟩
  · refine ⟨⟨h.lv.inv.by hgb (fun _ _ _ _ _ => by simp), h.lv.all, h.lv.own, h.lv.ks.by (Nat.le_refl _) hgb (fun k hk => by cases hk)⟩, h.ful, h.ss.of_block (fun g _ hg => hgb.block g hg (by simp)), Or.inr ⟨g', f, rfl, hf, by omega, hfm, by omega⟩, fun g hg e => by cases e; have := qlt _ hg; omega, h.sl, hsl, h.sm, hsm⟩
end Go.Proofs.YtakcpoapokacgabDoor
