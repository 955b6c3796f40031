import Derived.Test.YtjblehmafjcncaaDoorProg
import Derived.Test.YtjblehmafjcncaaDoorKXA0
import Derived.Test.YtjblehmafjcncaaDoorKXM
import Derived.Test.YtjblehmafjcncaaDoorKHB
import Derived.Test.YtjblehmafjcncaaDoorKXT
import Derived.Test.YtjblehmafjcncaaDoorKXTZ
import Derived.Test.YtjblehmafjcncaaDoorKRC
import Derived.Test.YtjblehmafjcncaaDoorKNC
import Derived.Test.YtjblehmafjcncaaDoorKLN
import Derived.Test.YtjblehmafjcncaaDoorKW4
import Derived.Test.YtjblehmafjcncaaDoorKNSm
import Derived.Test.YtjblehmafjcncaaDoorKHB2
import Derived.Test.YtjblehmafjcncaaDoorKYAK
import Derived.Test.YtjblehmafjcncaaDoorKXQQ
import Derived.Test.YtjblehmafjcncaaDoorKXYP
import Derived.Test.YtjblehmafjcncaaDoorKXNM
import Derived.Test.YtjblehmafjcncaaDoorKXRMU
import Derived.Test.YtjblehmafjcncaaDoorKBW
import Derived.Test.YtjblehmafjcncaaDoorKXRO2
import Derived.Test.YtjblehmafjcncaaDoorKXS
import Derived.Test.YtjblehmafjcncaaDoorKLS
import Derived.Test.YtjblehmafjcncaaDoorKXA
import Derived.WalkKit
import Derived.ProofKit
import Derived.RowKit3
import Derived.WalkSpells
import Derived.StillTactics
import Derived.Deep.QuietTactic
import Derived.BigQuiet
import Derived.Below
import Derived.Deep.OwnRows
import Derived.OwnWalk
namespace Go.Proofs.YtjblehmafjcncaaDoor
open Go.RowKit
/-- a list as a slice shows it -/
structure Lst where
  p : Option Addr
  c : Nat
  xs : List Int
def Lst.v (l : Lst) : Value := .slice l.p l.xs.length l.c
/-- a list that is read, in a block that is neither of two rows' -/
def TwoL (p q : Option Addr) (w : World) (l : Lst) : Prop := Wd l.xs ∧ l.xs.length ≤ 1048576 ∧ l.xs.length ≤ l.c ∧ (l.xs = [] ∨ ∃ b off, l.p = some ⟨b, off, none⟩ ∧ p ≠ some ⟨b, 0, none⟩ ∧ q ≠ some ⟨b, 0, none⟩ ∧ ∀ j, j < l.xs.length → w.cell? ⟨b, off + j, none⟩ = some (.int .u32 (l.xs.getD j 0)))
theorem TwoL.arr {p q : Option Addr} {w : World} {l : Lst} (h : TwoL p q w l) : Arr w l.p l.xs := by
  rcases h.2.2.2 with h | ⟨b, off, e, _, _, hc⟩
  · exact Or.inl h
  · exact Or.inr ⟨b, off, e, hc⟩
theorem TwoL.grown {p q : Option Addr} {w w' : World} {l : Lst} (h : TwoL p q w l) (k : Kp w w') : TwoL p q w' l := by
  refine ⟨h.1, h.2.1, h.2.2.1, ?_⟩
  rcases h.2.2.2 with h | ⟨b, off, e, h1, h2, hc⟩
  · exact Or.inl h
  · exact Or.inr ⟨b, off, e, h1, h2, fun j hj => kkeep k (hc j hj)⟩
theorem TwoL.kb {p q : Option Addr} {w w' : World} {l : Lst} {g : Nat} (h : TwoL p q w l) (hg : p = some ⟨g, 0, none⟩ ∨ q = some ⟨g, 0, none⟩) (k : Kb g w w') : TwoL p q w' l := by
  refine ⟨h.1, h.2.1, h.2.2.1, ?_⟩
  rcases h.2.2.2 with h | ⟨b, off, e, h1, h2, hc⟩
  · exact Or.inl h
  · have hne : b ≠ g := by
      rintro rfl
      rcases hg with hg | hg
      · exact h1 hg
      · exact h2 hg
    exact Or.inr ⟨b, off, e, h1, h2, fun j hj => k.arr hne (hc j hj)⟩
theorem TwoL.newP {p q : Option Addr} {w w' : World} {l : Lst} {g : Nat} (h : TwoL p q w l) (hg : w.heap.size ≤ g) (k : Kp w w') : TwoL (some ⟨g, 0, none⟩) q w' l := by
  refine ⟨h.1, h.2.1, h.2.2.1, ?_⟩
  rcases h.2.2.2 with h | ⟨b, off, e, h1, h2, hc⟩
  · exact Or.inl h
  · by_cases c0 : l.xs.length = 0
    · exact Or.inl (List.length_eq_zero_iff.1 c0)
    · have hlt := cell_lt (hc 0 (by omega))
      refine Or.inr ⟨b, off, e, ?_, h2, fun j hj => kkeep k (hc j hj)⟩
      intro e2; cases e2; omega
theorem TwoL.newQ {p q : Option Addr} {w w' : World} {l : Lst} {g : Nat} (h : TwoL p q w l) (hg : w.heap.size ≤ g) (k : Kp w w') : TwoL p (some ⟨g, 0, none⟩) w' l := by
  refine ⟨h.1, h.2.1, h.2.2.1, ?_⟩
  rcases h.2.2.2 with h | ⟨b, off, e, h1, h2, hc⟩
  · exact Or.inl h
  · by_cases c0 : l.xs.length = 0
    · exact Or.inl (List.length_eq_zero_iff.1 c0)
    · have hlt := cell_lt (hc 0 (by omega))
      refine Or.inr ⟨b, off, e, h1, ?_, fun j hj => kkeep k (hc j hj)⟩
      intro e2; cases e2; omega
/-- a list in a new block -/
theorem TwoL.of {p q : Option Addr} {w w' : World} {lp : Option Addr} {c : Nat} {xs : List Int} (ha : Arr w' lp xs) (hw : Wd xs) (hl : xs.length ≤ 1048576) (hc : xs.length ≤ c) (hnew : ∀ b off, lp = some ⟨b, off, none⟩ → w.heap.size ≤ b) (hp : ∀ g, p = some ⟨g, 0, none⟩ → g < w.heap.size) (hq : ∀ g, q = some ⟨g, 0, none⟩ → g < w.heap.size) : TwoL p q w' ⟨lp, c, xs⟩ := by
  refine ⟨hw, hl, hc, ?_⟩
  rcases ha with h | ⟨b, off, e, hc⟩
  · exact Or.inl h
  · have := hnew b off e
    refine Or.inr ⟨b, off, e, ?_, ?_, hc⟩
    · intro e2; have := hp b e2; omega
    · intro e2; have := hq b e2; omega
/-- a row of lists: a row of one's own, or none -/
def RowL (w : World) (p : Option Addr) (n cap : Nat) (ls : List Lst) : Prop := (ls.map Lst.v).length = n ∧ ((p = none ∧ n = 0 ∧ cap = 0) ∨ ∃ g f, p = some ⟨g, 0, none⟩ ∧ w.rowIs g 24 cap f ∧ n ≤ cap ∧ ∀ j u, (ls.map Lst.v)[j]? = some u → f j = u)
theorem RowL.lt {w : World} {p : Option Addr} {n cap : Nat} {ls : List Lst} (h : RowL w p n cap ls) (g : Nat) (hg : p = some ⟨g, 0, none⟩) : g < w.heap.size := by
  rcases h.2 with ⟨h, _⟩ | ⟨g', f, h1, h2, _⟩
  · rw [h] at hg; cases hg
  · rw [h1] at hg; cases hg; exact World.rowIs.lt h2
theorem RowL.same {w w' : World} {p : Option Addr} {n cap : Nat} {ls : List Lst} (h : RowL w p n cap ls) (hb : ∀ g, p = some ⟨g, 0, none⟩ → w'.heap[g]? = w.heap[g]?) : RowL w' p n cap ls := by
  refine ⟨h.1, ?_⟩
  rcases h.2 with h | ⟨g, f, h1, h2, h3, h4⟩
  · exact Or.inl h
  · exact Or.inr ⟨g, f, h1, World.rowIs.of_block h2 (hb g h1), h3, h4⟩
theorem RowL.grown {w w' : World} {p : Option Addr} {n cap : Nat} {ls : List Lst} (h : RowL w p n cap ls) (k : Kp w w') : RowL w' p n cap ls := h.same (fun g hg => Below.block k g (h.lt g hg))
theorem RowL.kb {w w' : World} {p : Option Addr} {n cap a : Nat} {ls : List Lst} (h : RowL w p n cap ls) (k : Kb a w w') (hne : p ≠ some ⟨a, 0, none⟩) : RowL w' p n cap ls := h.same (fun g hg => k.2.2.2.2 g (h.lt g hg) (by rintro rfl; exact hne hg))
/-- both rows -/
structure PSt (w0 w : World) (p : Option Addr) (n cp : Nat) (ls : List Lst) (q : Option Addr) (m cq : Nat) (ms : List Lst) : Prop where
  k : Kp w0 w
  r1 : RowL w p n cp ls
  r2 : RowL w q m cq ms
  b1 : ∀ g, p = some ⟨g, 0, none⟩ → w0.heap.size ≤ g
  b2 : ∀ g, q = some ⟨g, 0, none⟩ → w0.heap.size ≤ g
  ne : ∀ g, p = some ⟨g, 0, none⟩ → q ≠ some ⟨g, 0, none⟩
  t1 : ∀ l ∈ ls, TwoL p q w l
  t2 : ∀ l ∈ ms, TwoL p q w l
theorem PSt.grown {w0 w w' : World} {p q : Option Addr} {n cp m cq : Nat} {ls ms : List Lst} (h : PSt w0 w p n cp ls q m cq ms) (k : Kp w w') : PSt w0 w' p n cp ls q m cq ms :=
  ⟨h.k.trans k, h.r1.grown k, h.r2.grown k, h.b1, h.b2, h.ne, fun l hl => (h.t1 l hl).grown k, fun l hl => (h.t2 l hl).grown k⟩
theorem setCells_one (w : World) (g n : Nat) (v : Value) : w.setCells g n [v] = w.setCell ⟨g, n, none⟩ v := rfl
/-- a list is appended to the first row -/
theorem PSt.push1 {w0 w w' : World} {p q : Option Addr} {n cp m cq : Nat} {ls ms : List Lst} (h : PSt w0 w p n cp ls q m cq ms) {l : Lst} (hl : TwoL p q w l) {g' cap' : Nat} (hc : n + 1 ≤ cap') (hr : ∃ f, w'.rowIs g' 24 cap' f ∧ ∀ j u, (ls.map Lst.v ++ [l.v])[j]? = some u → f j = u)
    (hd : (p = some ⟨g', 0, none⟩ ∧ cap' = cp ∧ w' = w.setCells g' n [l.v]) ∨ (w.heap.size ≤ g' ∧ w.grownBy w' none)) : PSt w0 w' (some ⟨g', 0, none⟩) (n + 1) cap' (ls ++ [l]) q m cq ms := by
  obtain ⟨f, hf, hfv⟩ := hr
  have hrow : RowL w' (some ⟨g', 0, none⟩) (n + 1) cap' (ls ++ [l]) := ⟨by rw [List.map_append, List.length_append, h.r1.1]; rfl, Or.inr ⟨g', f, rfl, hf, hc, by rw [List.map_append]; exact hfv⟩⟩
  rcases hd with ⟨rfl, -, rfl⟩ | ⟨hg, hgb⟩
  · have kb : Kb g' w (w.setCells g' n [l.v]) := by rw [setCells_one]; exact (Kb.refl g' w).setCell n _
    refine ⟨kb.kp h.k (h.b1 g' rfl), hrow, h.r2.kb kb (h.ne g' rfl), h.b1, h.b2, h.ne, ?_, fun x hx => (h.t2 x hx).kb (Or.inl rfl) kb⟩
    intro x hx
    rcases List.mem_append.1 hx with hx | hx
    · exact (h.t1 x hx).kb (Or.inl rfl) kb
    · rw [List.mem_singleton.1 hx]; exact hl.kb (Or.inl rfl) kb
  · have kp : Kp w w' := Kp.grown (Kp.refl w) hgb (fun k hk => by cases hk)
    refine ⟨h.k.trans kp, hrow, h.r2.grown kp, ?_, h.b2, ?_, ?_, fun x hx => (h.t2 x hx).newP hg kp⟩
    · intro g e; cases e; have := Below.size h.k; omega
    · intro g e e2; cases e; have := h.r2.lt g' e2; omega
    · intro x hx
      rcases List.mem_append.1 hx with hx | hx
      · exact (h.t1 x hx).newP hg kp
      · rw [List.mem_singleton.1 hx]; exact hl.newP hg kp
theorem TwoL.swap {p q : Option Addr} {w : World} {l : Lst} (h : TwoL p q w l) : TwoL q p w l := by
  obtain ⟨h1, h2, h3, h4⟩ := h
  exact ⟨h1, h2, h3, h4.imp id (fun ⟨b, off, e, n1, n2, hc⟩ => ⟨b, off, e, n2, n1, hc⟩)⟩
/-- another list stays as it is when one is appended to the first row -/
theorem PSt.push1l {w0 w w' : World} {p q : Option Addr} {n cp m cq : Nat} {ls ms : List Lst} (_h : PSt w0 w p n cp ls q m cq ms) {l x : Lst} (_hl : TwoL p q w l) (hx : TwoL p q w x) {g' cap' : Nat}
    (hd : (p = some ⟨g', 0, none⟩ ∧ cap' = cp ∧ w' = w.setCells g' n [l.v]) ∨ (w.heap.size ≤ g' ∧ w.grownBy w' none)) : TwoL (some ⟨g', 0, none⟩) q w' x := by
  rcases hd with ⟨rfl, -, rfl⟩ | ⟨hg, hgb⟩
  · have kb : Kb g' w (w.setCells g' n [l.v]) := by rw [setCells_one]; exact (Kb.refl g' w).setCell n _
    exact hx.kb (Or.inl rfl) kb
  · exact hx.newP hg (Kp.grown (Kp.refl w) hgb (fun k hk => by cases hk))
theorem PSt.swap {w0 w : World} {p q : Option Addr} {n cp m cq : Nat} {ls ms : List Lst} (h : PSt w0 w p n cp ls q m cq ms) : PSt w0 w q m cq ms p n cp ls :=
  ⟨h.k, h.r2, h.r1, h.b2, h.b1, fun g e1 e2 => h.ne g e2 e1, fun l hl => by obtain ⟨h1, h2, h3, h4⟩ := h.t2 l hl; exact ⟨h1, h2, h3, h4.imp id (fun ⟨b, off, e, n1, n2, hc⟩ => ⟨b, off, e, n2, n1, hc⟩)⟩, fun l hl => by obtain ⟨h1, h2, h3, h4⟩ := h.t1 l hl; exact ⟨h1, h2, h3, h4.imp id (fun ⟨b, off, e, n1, n2, hc⟩ => ⟨b, off, e, n2, n1, hc⟩)⟩⟩
/-- a list is stored into the first row -/
theorem PSt.set1 {w0 w : World} {p q : Option Addr} {n cp m cq : Nat} {ls ms : List Lst} (h : PSt w0 w p n cp ls q m cq ms) {l : Lst} (hl : TwoL p q w l) {g a : Nat} (hp : p = some ⟨g, 0, none⟩) : PSt w0 (w.setCell ⟨g, a, none⟩ l.v) p n cp (ls.set a l) q m cq ms := by
  have kb : Kb g w (w.setCell ⟨g, a, none⟩ l.v) := (Kb.refl g w).setCell a _
  refine ⟨kb.kp h.k (h.b1 g hp), ?_, h.r2.kb kb (h.ne g hp), h.b1, h.b2, h.ne, ?_, fun x hx => (h.t2 x hx).kb (Or.inl hp) kb⟩
  · refine ⟨by rw [← h.r1.1]; simp, ?_⟩
    rcases h.r1.2 with ⟨h0, _⟩ | ⟨g', f, h1, h2, h3, h4⟩
    · rw [h0] at hp; cases hp
    · rw [h1] at hp; cases hp
      refine Or.inr ⟨g, _, h1, World.rowIs.set h2 a l.v, h3, fun j u hj => ?_⟩
      rw [List.map_set] at hj
      by_cases c : j = a
      · subst c
        rw [if_pos rfl]
        rw [List.getElem?_set] at hj
        simp at hj
        exact hj.2
      · rw [if_neg c]
        rw [List.getElem?_set_ne (by omega)] at hj
        exact h4 j u hj
  · intro x hx
    rcases List.mem_or_eq_of_mem_set hx with hx | rfl
    · exact (h.t1 x hx).kb (Or.inl hp) kb
    · exact hl.kb (Or.inl hp) kb
/-- what a cell of the first row holds -/
theorem PSt.at1 {w0 w : World} {p q : Option Addr} {n cp m cq : Nat} {ls ms : List Lst} (h : PSt w0 w p n cp ls q m cq ms) {a : Nat} (ha : a < n) : ∃ g l, p = some ⟨g, 0, none⟩ ∧ ls[a]? = some l ∧ w.cell? ⟨g, a, none⟩ = some l.v ∧ TwoL p q w l ∧ w.frozen? ⟨g, a, none⟩ = false ∧ a < cp := by
  have hlen : a < ls.length := by have := h.r1.1; simp at this; omega
  rcases h.r1.2 with ⟨_, h0, _⟩ | ⟨g, f, h1, h2, h3, h4⟩
  · omega
  · refine ⟨g, ls[a], h1, List.getElem?_eq_getElem hlen, ?_, h.t1 _ (List.getElem_mem hlen), World.rowIs.frozen h2 a, by omega⟩
    rw [h2.cell (by omega), h4 a (ls[a]).v (by simp [hlen])]
set_option maxRecDepth 20000 in
set_option maxHeartbeats 400000 in
theorem place8_ (i : Int) (w : World) : Calls Tryd.prog 6 #[.int .i64 i] w fun e w' => ∃ a : Nat, e = .returned (.int .i64 (a : Int)) ∧ a < 8 ∧ w' = w := by
  by_cases c : i < 0
  · go_enter Tryd.func6, Tryd.ntmps6
    go_wp2
    exact bodyPost_ret (v := .int .i64 0) (by simp [results, Tryd.results6, go_sem]) rfl ⟨0, rfl, by omega, rfl⟩
  · obtain ⟨m, rfl⟩ := Int.eq_ofNat_of_zero_le (show 0 ≤ i by omega)
    have f1 : ((m : Nat) : Int).tmod 8 = ((m % 8 : Nat) : Int) := rfl
    obtain ⟨r, hr⟩ : ∃ r, r = m % 8 := ⟨_, rfl⟩
    have hr8 : r < 8 := by omega
    rw [← hr] at f1
    have f2 : ((m : Nat) : Int) % 8 = (r : Int) := by omega
    clear hr
    go_enter Tryd.func6, Tryd.ntmps6
    go_wp2
    exact bodyPost_ret (v := .int .i64 (r : Int)) (by simp [results, Tryd.results6, go_sem] <;> first | omega | simp only [*]) rfl ⟨r, rfl, hr8, rfl⟩
/-- the lists that are handed in -/
def Fst (w : World) (p : Option Addr) (fs : List Lst) : Prop := fs = [] ∨ ∃ b off, p = some ⟨b, off, none⟩ ∧ ∀ j l, fs[j]? = some l → w.cell? ⟨b, off + j, none⟩ = some l.v ∧ Arr w l.p l.xs ∧ Wd l.xs ∧ l.xs.length ≤ 1048576
theorem Fst.grown {w w' : World} {p : Option Addr} {fs : List Lst} (h : Fst w p fs) (k : Kp w w') : Fst w' p fs := by
  rcases h with h | ⟨b, off, e, h⟩
  · exact Or.inl h
  · exact Or.inr ⟨b, off, e, fun j l hj => ⟨kkeep k (h j l hj).1, (h j l hj).2.1.grown k, (h j l hj).2.2⟩⟩
/-- the steps that are handed in -/
def Stp (w : World) (p : Option Addr) (S : Nat) (st : Nat → Nat → Int) : Prop := S = 0 ∨ ∃ b off, p = some ⟨b, off, none⟩ ∧ ∀ j, j < S → ∀ f, f < 4 → w.cell? ⟨b, off + j * 4 + f, none⟩ = some (.int .i64 (st j f)) ∧ -9223372036854775808 ≤ st j f ∧ st j f < 9223372036854775808
theorem Stp.grown {w w' : World} {p : Option Addr} {S : Nat} {st : Nat → Nat → Int} (h : Stp w p S st) (k : Kp w w') : Stp w' p S st := by
  rcases h with h | ⟨b, off, e, h⟩
  · exact Or.inl h
  · exact Or.inr ⟨b, off, e, fun j hj f hf => ⟨kkeep k (h j hj f hf).1, (h j hj f hf).2⟩⟩
theorem Ls.two {p q : Option Addr} {w w' : World} {g : Nat} {xs : List Int} (h : Rw w' g xs.length xs) (hw : Wd xs) (hl : xs.length ≤ 1048576) (hg : w.heap.size ≤ g) (hp : ∀ g, p = some ⟨g, 0, none⟩ → g < w.heap.size) (hq : ∀ g, q = some ⟨g, 0, none⟩ → g < w.heap.size) : TwoL p q w' ⟨some ⟨g, 0, none⟩, xs.length, xs⟩ :=
  TwoL.of (h.all rfl) hw hl (Nat.le_refl _) (fun b off e => by cases e; exact hg) hp hq
set_option maxRecDepth 20000 in
set_option maxHeartbeats 1000000 in
theorem short9_ (p : Option Addr) (c m : Nat) (xs : List Int) (w : World) (hx : Arr w p xs) (lx : xs.length ≤ 1048576) :
    Calls Tryd.prog 4 #[.slice p xs.length c, .int .i64 (m : Int)] w fun e w' => ∃ g cc, e = .returned (.slice (some ⟨g, 0, none⟩) (xs.take m).length cc) ∧ w.heap.size ≤ g ∧ Arr w' (some ⟨g, 0, none⟩) (xs.take m) ∧ (xs.take m).length ≤ cc ∧ Kp w w' := by
  have hco := copied_ p c xs w hx (by omega)
  obtain ⟨N, hN⟩ : ∃ N, N = xs.length := ⟨_, rfl⟩
  have HN : Hid (N = xs.length) := hN
  rw [← hN] at hco lx ⊢
  clear hx hN
  by_cases cn : m < N
  · have t1 : (m : Int) < (N : Int) := by omega
    have hsl := fun g => sl32s g m N (by omega)
    have HM : Hid (m < N ∧ (xs.take m).length = m) := ⟨cn, by rw [List.length_take, ← HN.out]; omega⟩
    rw [HM.out.2]
    clear cn
    go_enter Tryd.func4, Tryd.ntmps4
    go_wp2_with fail
    refine hco.mono ?_
    rintro e w1 ⟨g, rfl, hg, hR, hk⟩
    have hs := hsl g
    have HZ : Hid (w.heap.size ≤ g ∧ Arr w1 (some ⟨g, 0, none⟩) (xs.take m) ∧ m ≤ N ∧ Kp w w1) := ⟨hg, hR.arr m (by have := HM.out; omega) (by have := HM.out; have := HN.out; omega), by have := HM.out; omega, hk⟩
    clear hco hsl hg hR hk
    go_wp2
    exact bodyPost_ret (v := .slice (some ⟨g, 0, none⟩) m N) (by simp [results, Tryd.results4, go_sem]) rfl ⟨g, N, rfl, HZ.out⟩
  · have t1 : ¬ (m : Int) < (N : Int) := by omega
    have HM : Hid (xs.take m = xs) := by
      have h := HN.out
      exact List.take_of_length_le (by omega)
    rw [HM.out, ← HN.out]
    clear cn
    go_enter Tryd.func4, Tryd.ntmps4
    go_wp2_with fail
    refine hco.mono ?_
    rintro e w1 ⟨g, rfl, hg, hR, hk⟩
    have HZ : Hid (w.heap.size ≤ g ∧ Arr w1 (some ⟨g, 0, none⟩) xs ∧ N ≤ N ∧ Kp w w1) := ⟨hg, hR.all HN.out.symm, Nat.le_refl _, hk⟩
    clear hco hg hR hk
    go_wp2
    exact bodyPost_ret (v := .slice (some ⟨g, 0, none⟩) N N) (by simp [results, Tryd.results4, go_sem]) rfl ⟨g, N, rfl, HZ.out⟩
end Go.Proofs.YtjblehmafjcncaaDoor
