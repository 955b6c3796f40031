import Derived.Test.YtjkbapnndoldgaaKSHi
import Derived.Test.YtjkbapnndoldgaaKSHrfar
namespace Go.Proofs.Ytjkbapnndoldgaa
open Go.RowKit
set_option linter.unusedVariables false
set_option maxRecDepth 20000 in
set_option maxHeartbeats 4000000 in
theorem hullA_far_ (a b c d L1 H1 L2 H2 NL NH : Nat) (hx : ∀ w : World, Calls Try.prog 49 #[.agg #[.float .f64 a, .float .f64 b]] w fun e w' => e = .returned (.agg #[.float .f64 L1, .float .f64 H1]) ∧ Kp w w') (hy : ∀ w : World, Calls Try.prog 49 #[.agg #[.float .f64 c, .float .f64 d]] w fun e w' => e = .returned (.agg #[.float .f64 L2, .float .f64 H2]) ∧ Kp w w') (hm1 : ∀ (ts : Array TypeId) (t : TypeId) (w : World), (Builtin.min_ ts t #[.float .f64 L1, .float .f64 L2]).run Try.prog w = .ok (.float .f64 NL) w) (hm2 : ∀ (ts : Array TypeId) (t : TypeId) (w : World), (Builtin.max_ ts t #[.float .f64 H1, .float .f64 H2]).run Try.prog w = .ok (.float .f64 NH) w) (w : World) : Calls Try.prog 27 #[.agg #[.float .f64 a, .float .f64 b], .agg #[.float .f64 c, .float .f64 d]] w fun e w' => e = .returned (.agg #[.float .f64 NL, .float .f64 NH]) ∧ Kp w w' := by
    go_enter Try.func27, Try.ntmps27
    go_upto_region 1 with fail
    go_cut [] (fun wx => H6 wx w.heap.size (.float .f64 L1) (.float .f64 H1) (.float .f64 L2) (.float .f64 H2) (.float .f64 0) (.float .f64 0) ∧ Kp w wx)
    case first =>
      go_region_with (first | (go_at_call_of 49 (Value.agg #[.float .f64 a, .float .f64 b]); refine (hx _).mono ?_; rintro e wx ⟨rfl, gx⟩; first | (have kx := Kp.trans ky gx; have sx := H6.keep sy gx; obtain ⟨⟨p0, p1, p2, p3⟩, ⟨p4, p5, p6, p7⟩, ⟨p8, p9, pa, pb⟩⟩ := id sx) | (have kx : Kp w wx := Kp.trans ((((Kp.refl w).alloc _).alloc _).alloc _).drew gx; have sx := H6.keep (H6.new w (.float .f64 a) (.float .f64 b) (.float .f64 c) (.float .f64 d) (.float .f64 0) (.float .f64 0) 59 59 59) (Kp.trans (Kp.drew (Kp.refl _)) gx); obtain ⟨⟨p0, p1, p2, p3⟩, ⟨p4, p5, p6, p7⟩, ⟨p8, p9, pa, pb⟩⟩ := id sx)) | (go_at_call_of 49 (Value.agg #[.float .f64 c, .float .f64 d]); refine (hy _).mono ?_; rintro e wy ⟨rfl, gy⟩; first | (have ky := Kp.trans kx gy; have sy := H6.keep sx gy; obtain ⟨⟨p0, p1, p2, p3⟩, ⟨p4, p5, p6, p7⟩, ⟨p8, p9, pa, pb⟩⟩ := id sy) | (have ky : Kp w wy := Kp.trans ((((Kp.refl w).alloc _).alloc _).alloc _).drew gy; have sy := H6.keep (H6.new w (.float .f64 a) (.float .f64 b) (.float .f64 c) (.float .f64 d) (.float .f64 0) (.float .f64 0) 59 59 59) (Kp.trans (Kp.drew (Kp.refl _)) gy); obtain ⟨⟨p0, p1, p2, p3⟩, ⟨p4, p5, p6, p7⟩, ⟨p8, p9, pa, pb⟩⟩ := id sy)))
      all_goals (
        go_wp2_with fail
        go_meet
        first | (exact ⟨H6.put (id sy : H6 wy w.heap.size (.float .f64 a) (.float .f64 b) (.float .f64 c) (.float .f64 d) (.float .f64 0) (.float .f64 0)) (.float .f64 L1) (.float .f64 H1) (.float .f64 L2) (.float .f64 H2), (((ky.setCell (Nat.le_refl _) _).setCell (Nat.le_refl _) _).setCell (Nat.le_succ _) _).setCell (Nat.le_succ _) _⟩) | (exact ⟨H6.put (id sx : H6 wx w.heap.size (.float .f64 a) (.float .f64 b) (.float .f64 c) (.float .f64 d) (.float .f64 0) (.float .f64 0)) (.float .f64 L1) (.float .f64 H1) (.float .f64 L2) (.float .f64 H2), (((kx.setCell (Nat.le_refl _) _).setCell (Nat.le_refl _) _).setCell (Nat.le_succ _) _).setCell (Nat.le_succ _) _⟩))
    case rest =>
    obtain ⟨sw, kw⟩ := hcut
    obtain ⟨⟨p0, p1, p2, p3⟩, ⟨p4, p5, p6, p7⟩, ⟨p8, p9, pa, pb⟩⟩ := id sw
    go_wp2
    exact bodyPost_ret (v := .agg #[.float .f64 NL, .float .f64 NH]) (by simp [results, Try.results27, go_sem, p8, p9]) rfl ⟨rfl, (kw.setCell (by simp <;> omega) _).setCell (by simp <;> omega) _⟩
theorem join_far9_ (a b c d : Nat) (L1 H1 L2 H2 : Int) (hx : Rd a b L1 H1) (hy : Rd c d L2 H2) (w : World) : Calls Try.prog 27 #[.agg #[.float .f64 a, .float .f64 b], .agg #[.float .f64 c, .float .f64 d]] w fun e w' => e = .returned (.agg #[.float .f64 (pw (min L1 L2)), .float .f64 (pw (max H1 H2))]) ∧ Kp w w' :=
  hullA_far_ a b c d _ _ _ _ _ _ (fun w => by have g := read_far_ a b hx.1 hx.2.1 w; rw [hx.2.2.2.1, hx.2.2.2.2] at g; exact g) (fun w => by have g := read_far_ c d hy.1 hy.2.1 w; rw [hy.2.2.2.1, hy.2.2.2.2] at g; exact g) (min9_ L1 L2 hx.vd.lo hy.vd.lo) (max9_ H1 H2 hx.vd.hi hy.vd.hi) w
open Go
namespace U9
def Arr (w : World) (p : Option Addr) (xs : List Int) : Prop := xs = [] ∨ ∃ b off, p = some ⟨b, off, none⟩ ∧ ∀ j, j < xs.length → w.cell? ⟨b, off + j, none⟩ = some (.int .u64 (xs.getD j 0))
theorem Arr.grown {w w' : World} {p : Option Addr} {xs : List Int} (h : Arr w p xs) (g : Kp w w') : Arr w' p xs := by
  rcases h with h | ⟨b, off, h1, h2⟩
  · exact Or.inl h
  · exact Or.inr ⟨b, off, h1, fun j hj => kkeep g (h2 j hj)⟩
theorem Arr.at {w : World} {p : Option Addr} {xs : List Int} (h : Arr w p xs) {k : Nat} (hk : k < xs.length) : ∃ b off, p = some ⟨b, off, none⟩ ∧ ∀ j, j < xs.length → w.cell? ⟨b, off + j, none⟩ = some (.int .u64 (xs.getD j 0)) := by
  rcases h with h | h
  · subst h; simp at hk
  · exact h
def Rw (w : World) (g n : Nat) (xs : List Int) : Prop := w.rowIs g 34 n (fun j => .int .u64 (xs.getD j 0))
theorem rowIs_grown {w w' : World} {g : Nat} {t : TypeId} {n : Nat} {f : Nat → Value} (h : w.rowIs g t n f) (gr : Kp w w') : w'.rowIs g t n f := by
  exact h.of_block (Below.block gr g h.lt)
theorem Rw.grown {w w' : World} {g n : Nat} {xs : List Int} (h : Rw w g n xs) (gr : Kp w w') : Rw w' g n xs := rowIs_grown h gr
theorem Rw.arr {w : World} {g n : Nat} {xs : List Int} (h : Rw w g n xs) (k : Nat) (hk : k ≤ n) (hx : k ≤ xs.length) : Arr w (some ⟨g, 0, none⟩) (xs.take k) := by
  refine Or.inr ⟨g, 0, rfl, fun j hj => ?_⟩
  have hj2 : j < k := by simp at hj; omega
  rw [Nat.zero_add, World.rowIs.cell h (by omega)]
  simp [List.getD, hj2]
theorem inf64 : (Try.prog.info? 34).map (fun i => (i.zero, i.size, i.bytes)) = some (some (.int .u64 0), 1, 8) := by kernel_rfl

def Own (w : World) (base : Nat) (v : Value) (xs : List Int) : Prop := w.ownsRow base 34 1 v xs.length (xs.map (Value.int .u64))
theorem Own.nil (w : World) (base : Nat) : Own w base (.slice none 0 0) [] := World.ownsRow_nil _ _ _ _
theorem Own.arr {w : World} {base : Nat} {v : Value} {xs : List Int} (h : Own w base v xs) : ∃ p c, v = .slice p xs.length c ∧ Arr w p xs ∧ xs.length ≤ c := by
  have hc : ∀ g, v.ownBlock = some g → ∀ j u, (xs.map (Value.int .u64))[j]? = some u → w.cell? ((⟨g, 0, none⟩ : Addr).add j) = some u := fun g hg => World.ownsRow.cells h hg
  rcases h.2 with ⟨h1, h2⟩ | ⟨g, cap, cur, h1, h2, h3, h4, h5, h6, h7⟩
  · have : xs = [] := List.length_eq_zero_iff.1 h2
    subst this
    exact ⟨none, 0, h1, Or.inl rfl, Nat.le_refl _⟩
  · refine ⟨_, cap, h1, Or.inr ⟨g, 0, rfl, fun j hj => ?_⟩, h4⟩
    have := hc g (by rw [h1]; rfl) j (.int .u64 (xs.getD j 0)) (by simp [List.getD, hj])
    have e : (⟨g, 0, none⟩ : Addr).add j = ⟨g, j, none⟩ := by
      unfold Addr.add
      by_cases c : j = 0
      · subst c; simp
      · simp [c]
    rw [Nat.zero_add, ← e]
    exact this
theorem Own.kp {w w' : World} {base : Nat} {v : Value} {xs : List Int} (h : Own w base v xs) (k : Kp w w') : Own w' base v xs := by
  refine ⟨h.1, ?_⟩
  rcases h.2 with h' | ⟨g, cap, cur, h1, h2, h3, h4, h5, h6, h7⟩
  · exact Or.inl h'
  · have hlt : g < w.heap.size := by
      by_cases c : g < w.heap.size
      · exact c
      · rw [Array.getElem?_eq_none (by simpa using c)] at h3; cases h3
    exact Or.inr ⟨g, cap, cur, h1, h2, by rw [Below.block k g hlt]; exact h3, h4, h5, h6, h7⟩
theorem Own.mono {w : World} {base base' : Nat} {v : Value} {xs : List Int} (h : Own w base v xs) (hb : base' ≤ base) : Own w base' v xs := by
  refine ⟨h.1, ?_⟩
  rcases h.2 with h' | ⟨g, cap, cur, h1, h2, h3⟩
  · exact Or.inl h'
  · exact Or.inr ⟨g, cap, cur, h1, Nat.le_trans hb h2, h3⟩
theorem Own.of_row {w : World} {base g n k : Nat} {xs : List Int} (h : Rw w g n xs) (hb : base ≤ g) (hk : k ≤ n) (hx : xs.length = n) (hn : n ≤ maxLen) : Own w base (.slice (some ⟨g, 0, none⟩) k n) (xs.take k) := by
  have hl : (xs.take k).length = k := by rw [List.length_take]; omega
  refine ⟨by simp, Or.inr ?_⟩
  rw [hl]
  obtain ⟨cur, h1, h2, h3⟩ := h
  refine ⟨g, n, cur, rfl, hb, h1, hk, hn, by omega, ?_⟩
  rw [Nat.mul_one]
  apply List.ext_getElem?
  intro j
  by_cases c : j < k
  · have := h3 j (by omega)
    simp [c, List.getElem?_map]
    simpa [List.getD, show j < xs.length from by omega] using this
  · simp [List.getElem?_take, c]
theorem inf64p : ∃ i, Try.prog.info? 34 = some i ∧ i.zero = some (.int .u64 0) ∧ i.size = 1 ∧ i.bytes = 8 := info_parts inf64
theorem Own.push {w : World} {base : Nat} {v : Value} {xs : List Int} {X : Int} (h : w.ownsRow base 34 1 v (xs.length + 1) (xs.map (Value.int .u64) ++ [.int .u64 X])) : Own w base v (xs ++ [X]) := by
  unfold Own
  simpa using h
theorem own_block {w : World} {base : Nat} {v : Value} {xs : List Int} (h : Own w base v xs) : ∀ k, v.ownBlock = some k → base ≤ k := fun k hk => (h.lt k hk).1
theorem take_push (xs : List Int) (k : Nat) (h : k < xs.length) : xs.take k ++ [xs.getD k 0] = xs.take (k + 1) := by
  rw [List.take_add_one, List.getElem?_eq_getElem h]
  simp [List.getD, h]
end U9

def Fin9 (x : Int) : Prop := x ≠ 9218868437227405312 ∧ x ≠ -9218868437227405312
def Cst (z : Nat → Int) (cs : List Int) : Prop := cs.length ≤ 4 ∧ (∀ i j, i < j → j < cs.length → cs.getD i 0 < cs.getD j 0) ∧ (∀ i, i < cs.length → ∃ j, j < 4 ∧ cs.getD i 0 = z j ∧ Fin9 (z j)) ∧ (∀ j, j < 4 → Fin9 (z j) → (∃ i, i < cs.length ∧ cs.getD i 0 = z j) ∨ (∀ i, i < cs.length → cs.getD i 0 < z j))
def Cut (z : Nat → Int) (cs : List Int) : Prop := cs.length ≤ 4 ∧ (∀ i j, i < j → j < cs.length → cs.getD i 0 < cs.getD j 0) ∧ (∀ i, i < cs.length → ∃ j, j < 4 ∧ cs.getD i 0 = z j ∧ Fin9 (z j)) ∧ (∀ j, j < 4 → Fin9 (z j) → ∃ i, i < cs.length ∧ cs.getD i 0 = z j)
def Cand (z : Nat → Int) (cs : List Int) (j : Nat) : Prop := Fin9 (z j) ∧ (cs.length = 0 ∨ cs.getD (cs.length - 1) 0 < z j)
theorem Cst.nil (z : Nat → Int) : Cst z [] := ⟨by simp, by simp, by simp, fun j _ _ => Or.inr (by simp)⟩
theorem cand_all {z : Nat → Int} {cs : List Int} (h : Cst z cs) {j : Nat} : Cand z cs j ↔ (Fin9 (z j) ∧ ∀ i, i < cs.length → cs.getD i 0 < z j) := by
  constructor
  · rintro ⟨h1, h2⟩
    refine ⟨h1, fun i hi => ?_⟩
    rcases h2 with h2 | h2
    · omega
    · by_cases c : i = cs.length - 1
      · rw [c]; exact h2
      · have := h.2.1 i (cs.length - 1) (by omega) (by omega)
        omega
  · rintro ⟨h1, h2⟩
    refine ⟨h1, ?_⟩
    by_cases c : cs.length = 0
    · exact Or.inl c
    · exact Or.inr (h2 _ (by omega))
theorem getD_push_lt (cs : List Int) (x : Int) (i : Nat) (h : i < cs.length) : (cs ++ [x]).getD i 0 = cs.getD i 0 := by
  simp [List.getD, List.getElem?_append_left h]
theorem getD_push_eq (cs : List Int) (x : Int) : (cs ++ [x]).getD cs.length 0 = x := by
  simp [List.getD]
theorem Cst.step {z : Nat → Int} {cs : List Int} (h : Cst z cs) (hl : cs.length < 4) {b : Nat} (hb : b < 4) (hc : Cand z cs b) (hm : ∀ j, j < 4 → Cand z cs j → z b ≤ z j) : Cst z (cs ++ [z b]) := by
  have hc' := (cand_all h).1 hc
  have hlen : (cs ++ [z b]).length = cs.length + 1 := by simp
  refine ⟨by omega, ?_, ?_, ?_⟩
  · intro i j hij hj
    rw [hlen] at hj
    rw [getD_push_lt cs _ i (by omega)]
    by_cases c : j = cs.length
    · rw [c, getD_push_eq]; exact hc'.2 i (by omega)
    · rw [getD_push_lt cs _ j (by omega)]; exact h.2.1 i j hij (by omega)
  · intro i hi
    rw [hlen] at hi
    by_cases c : i = cs.length
    · rw [c, getD_push_eq]; exact ⟨b, hb, rfl, hc.1⟩
    · rw [getD_push_lt cs _ i (by omega)]; exact h.2.2.1 i (by omega)
  · intro j hj hf
    rw [hlen]
    rcases h.2.2.2 j hj hf with ⟨i, h1, h2⟩ | h1
    · exact Or.inl ⟨i, by omega, by rw [getD_push_lt cs _ i h1]; exact h2⟩
    · have hcj : Cand z cs j := (cand_all h).2 ⟨hf, h1⟩
      have hle := hm j hj hcj
      by_cases e : z b = z j
      · exact Or.inl ⟨cs.length, by omega, by rw [getD_push_eq]; exact e⟩
      · refine Or.inr (fun i hi => ?_)
        by_cases c : i = cs.length
        · rw [c, getD_push_eq]; omega
        · rw [getD_push_lt cs _ i (by omega)]; exact h1 i (by omega)
theorem Cst.done {z : Nat → Int} {cs : List Int} (h : Cst z cs) (hn : ∀ j, j < 4 → ¬ Cand z cs j) : Cut z cs := by
  refine ⟨h.1, h.2.1, h.2.2.1, fun j hj hf => ?_⟩
  rcases h.2.2.2 j hj hf with h1 | h1
  · exact h1
  · exact absurd ((cand_all h).2 ⟨hf, h1⟩) (hn j hj)
theorem Cst.four {z : Nat → Int} {cs : List Int} (h : Cst z cs) (hl : ¬ cs.length < 4) : Cut z cs := by
  refine h.done (fun j hj hc => ?_)
  have h4 : cs.length = 4 := by have := h.1; omega
  have hc' := ((cand_all h).1 hc).2
  obtain ⟨j0, a0, e0, _⟩ := h.2.2.1 0 (by omega)
  obtain ⟨j1, a1, e1, _⟩ := h.2.2.1 1 (by omega)
  obtain ⟨j2, a2, e2, _⟩ := h.2.2.1 2 (by omega)
  obtain ⟨j3, a3, e3, _⟩ := h.2.2.1 3 (by omega)
  have s01 := h.2.1 0 1 (by omega) (by omega)
  have s12 := h.2.1 1 2 (by omega) (by omega)
  have s23 := h.2.1 2 3 (by omega) (by omega)
  have s3 := hc' 3 (by omega)
  rw [e0, e1] at s01
  rw [e1, e2] at s12
  rw [e2, e3] at s23
  rw [e3] at s3
  have n01 : j0 ≠ j1 := by intro e; rw [e] at s01; omega
  have n12 : j1 ≠ j2 := by intro e; rw [e] at s12; omega
  have n23 : j2 ≠ j3 := by intro e; rw [e] at s23; omega
  have n3 : j3 ≠ j := by intro e; rw [e] at s3; omega
  have n02 : j0 ≠ j2 := by intro e; rw [e] at s01; omega
  have n13 : j1 ≠ j3 := by intro e; rw [e] at s12; omega
  have n03 : j0 ≠ j3 := by intro e; rw [e] at s01; omega
  have n2 : j2 ≠ j := by intro e; rw [e] at s23; omega
  have n1 : j1 ≠ j := by intro e; rw [e] at s12; omega
  have n0 : j0 ≠ j := by intro e; rw [e] at s01; omega
  omega
end Go.Proofs.Ytjkbapnndoldgaa
