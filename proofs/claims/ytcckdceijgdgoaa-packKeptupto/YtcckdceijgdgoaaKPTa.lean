import Derived.Test.YtcckdceijgdgoaaKPVc
import Derived.ArgAppend
namespace Go.Proofs.Ytcckdceijgdgoaa
open Go.RowKit
open Go
namespace B8
theorem infS0 : (Try.prog.info? 35).map (fun i => (i.zero, i.size, i.bytes)) = some (some (.slice none 0 0), 1, 24) := by kernel_rfl
theorem infS : ∃ i, Try.prog.info? 35 = some i ∧ i.zero = some (.slice none 0 0) ∧ i.size = 1 ∧ i.bytes = 24 := info_parts infS0
def OS (w : World) (base : Nat) (v : Value) (vs : List Value) : Prop := w.ownsRow base 35 1 v vs.length vs
theorem OS.nil (w : World) (base : Nat) : OS w base (.slice none 0 0) [] := World.ownsRow_nil _ _ _ _
theorem OS.kp {w w' : World} {base : Nat} {v : Value} {vs : List Value} (h : OS w base v vs) (k : Kp w w') : OS w' base v vs := by
  refine ⟨h.1, ?_⟩
  rcases h.2 with h' | ⟨g, cap, cur, h1, h2, h3, h4, h5, h6, h7⟩
  · exact Or.inl h'
  · have hlt : g < w.heap.size := by
      by_cases c : g < w.heap.size
      · exact c
      · rw [Array.getElem?_eq_none (by simpa using c)] at h3; cases h3
    exact Or.inr ⟨g, cap, cur, h1, h2, by rw [Below.block k g hlt]; exact h3, h4, h5, h6, h7⟩
theorem OS.kb {w w' : World} {base g : Nat} {v : Value} {vs : List Value} (h : OS w base v vs) (k : Kb g w w') (hne : v.ownBlock ≠ some g) : OS w' base v vs := by
  refine ⟨h.1, ?_⟩
  rcases h.2 with h' | ⟨b, cap, cur, h1, h2, h3, h4, h5, h6, h7⟩
  · exact Or.inl h'
  · have hlt : b < w.heap.size := by
      by_cases c : b < w.heap.size
      · exact c
      · rw [Array.getElem?_eq_none (by simpa using c)] at h3; cases h3
    have hb : b ≠ g := fun e => hne (by rw [h1, ← e]; rfl)
    exact Or.inr ⟨b, cap, cur, h1, h2, by rw [k.2.2.2.2 b hlt hb]; exact h3, h4, h5, h6, h7⟩
theorem OS.at {w : World} {base : Nat} {v : Value} {vs : List Value} (h : OS w base v vs) : ∃ p c, v = .slice p vs.length c ∧ (vs = [] ∨ ∃ b, p = some ⟨b, 0, none⟩ ∧ v.ownBlock = some b ∧ base ≤ b ∧ b < w.heap.size ∧ ∀ j, j < vs.length → w.cell? ⟨b, j, none⟩ = some (vs.getD j undef)) := by
  have hc : ∀ g, v.ownBlock = some g → ∀ j u, vs[j]? = some u → w.cell? ((⟨g, 0, none⟩ : Addr).add j) = some u := fun g hg => World.ownsRow.cells h hg
  have hlt := World.ownsRow.lt h
  rcases h.2 with ⟨h1, h2⟩ | ⟨g, cap, cur, h1, h2, h3, h4, h5, h6, h7⟩
  · have : vs = [] := List.length_eq_zero_iff.1 h2
    subst this
    exact ⟨none, 0, h1, Or.inl rfl⟩
  · have hv : v.ownBlock = some g := by rw [h1]; rfl
    refine ⟨_, cap, h1, Or.inr ⟨g, rfl, hv, h2, (hlt g hv).2, fun j hj => ?_⟩⟩
    have := hc g hv j (vs.getD j undef) (by simp [List.getD, hj])
    rwa [addr_add, Nat.zero_add] at this
theorem appS_run (w : World) (base : Nat) (v : Value) (vs us : List Value) (b m c : Nat) (hown : OS w base v vs) (hu : ∀ j u, us[j]? = some u → w.cell? ⟨b, j, none⟩ = some u) (h1 : ∀ u ∈ us, u.oneCell' = true) (hl : us.length = m) (hb : vs.length + m ≤ 1048576) (hbase : base ≤ w.heap.size) :
    ∃ v' w', (Builtin.append_ #[59, 59] 59 #[v, .slice (some ⟨b, 0, none⟩) m c]).run Try.prog w = .ok v' w' ∧ OS w' base v' (vs ++ us) ∧ w.grownBy w' v.ownBlock ∧ (v'.ownBlock = v.ownBlock ∨ v'.ownBlock = some w.heap.size) := by
  obtain ⟨i0, hi0, hi1, hi2, hi3⟩ := infS
  obtain ⟨v', w', hr, ho, hg, -, h5⟩ := run_append_own_at (P := Try.prog) w base 59 59 35 i0 (.slice none 0 0) 1 24 Try.underlying59 hi0 hi1 hi2 hi3 rfl (by decide) v vs.length vs hown ⟨b, 0, none⟩ m c us (by omega) (fun j u hu' => by rw [addr_add, Nat.zero_add]; exact hu j u hu') h1 (by unfold maxLen; omega) (by omega) hbase
  refine ⟨v', w', hr, ?_, hg, h5⟩
  unfold OS
  rw [List.length_append, hl]
  exact ho
theorem app_full (w : World) (g n b c : Nat) (x : Int) (xs : List Int) (hl : xs.length = n) (hn : n ≤ 1048575) (ha : Arr w (some ⟨g, 0, none⟩) xs) (hb : w.cell? ⟨b, 0, none⟩ = some (.int .u8 x)) :
    ∃ v' w', (Builtin.append_ #[35, 35] 35 #[.slice (some ⟨g, 0, none⟩) n n, .slice (some ⟨b, 0, none⟩) 1 c]).run Try.prog w = .ok v' w' ∧ Own w' w.heap.size v' (xs ++ [x]) ∧ Kp w w' := by
  obtain ⟨i0, hi0, hi1, hi2, hi3⟩ := inf8p
  obtain ⟨v', w', hr, ho, hg⟩ := run_append_arg_grows (P := Try.prog) w 35 35 5 i0 (.int .u8 0) 1 1 Try.underlying35 hi0 hi1 hi2 hi3 rfl (by decide) ⟨g, 0, none⟩ n n (xs.map (Value.int .u8)) (by rw [List.length_map, hl]; omega) (fun j u hu => by
    have hj : j < xs.length := by
      have := (List.getElem?_eq_some_iff.1 hu).1
      simpa using this
    obtain ⟨b', off', e, hc⟩ := ha.at hj
    obtain ⟨rfl, rfl⟩ : g = b' ∧ 0 = off' := by simpa using e
    rw [addr_add, hc j hj]
    simpa [List.getD, hj] using hu) ⟨b, 0, none⟩ 1 c [.int .u8 x] rfl (fun j u hu => by
    match j, hu with
    | 0, hu => rw [addr_add, Nat.add_zero, hb]; simpa using hu) (by omega) (by unfold maxLen; omega) (by omega)
  refine ⟨v', w', hr, ?_, (Kp.refl w).grown hg (fun k hk => by cases hk)⟩
  unfold Own
  rw [List.length_append, List.map_append, hl]
  exact ho
def sv (q : Nat × Nat) : Value := .slice (some ⟨q.1, 0, none⟩) q.2 q.2
def mk (k : Nat) : Int := (k : Int) + 1
def KS (w : World) (base : Nat) (v : Value) (ks : List (Nat × Nat)) (m : Nat) : Prop :=
  OS w base v (ks.map sv) ∧ (∀ k, k < ks.length → base ≤ (ks.getD k (0, 0)).1 ∧ (ks.getD k (0, 0)).2 ≤ 33 ∧ v.ownBlock ≠ some (ks.getD k (0, 0)).1 ∧ (∃ f, w.rowIs (ks.getD k (0, 0)).1 5 (ks.getD k (0, 0)).2 f) ∧ (k < m → w.rowIs (ks.getD k (0, 0)).1 5 (ks.getD k (0, 0)).2 (fun _ => .int .u8 (mk k)))) ∧
  ∀ a b, a < ks.length → b < ks.length → a ≠ b → (ks.getD a (0, 0)).1 ≠ (ks.getD b (0, 0)).1
theorem KS.kp {w w' : World} {base : Nat} {v : Value} {ks : List (Nat × Nat)} {m : Nat} (h : KS w base v ks m) (k : Kp w w') : KS w' base v ks m :=
  ⟨h.1.kp k, fun i hi => ⟨(h.2.1 i hi).1, (h.2.1 i hi).2.1, (h.2.1 i hi).2.2.1, (h.2.1 i hi).2.2.2.1.elim fun f hf => ⟨f, rowIs_grown hf k⟩, fun hm => rowIs_grown ((h.2.1 i hi).2.2.2.2 hm) k⟩, h.2.2⟩
theorem KS.nil (w : World) (base : Nat) : KS w base (.slice none 0 0) [] 0 := ⟨OS.nil w base, fun k hk => by simp at hk, fun a b ha => by simp at ha⟩
theorem KS.mark {w w' : World} {base : Nat} {v : Value} {ks : List (Nat × Nat)} {m : Nat} (h : KS w base v ks m) (hm : m < ks.length) (k : Kb (ks.getD m (0, 0)).1 w w') (hr : w'.rowIs (ks.getD m (0, 0)).1 5 (ks.getD m (0, 0)).2 (fun _ => .int .u8 (mk m))) : KS w' base v ks (m + 1) := by
  refine ⟨h.1.kb k (h.2.1 m hm).2.2.1, fun i hi => ?_, h.2.2⟩
  obtain ⟨h1, h2, h3, h4, h5⟩ := h.2.1 i hi
  by_cases c : i = m
  · subst c
    exact ⟨h1, h2, h3, ⟨_, hr⟩, fun _ => hr⟩
  · have hne := h.2.2 i m hi hm c
    exact ⟨h1, h2, h3, h4.elim fun f hf => ⟨f, rowIs_kb hf k hne⟩, fun hlt => rowIs_kb (h5 (by omega)) k hne⟩
theorem KS.kb {w w' : World} {base : Nat} {v : Value} {ks : List (Nat × Nat)} {m : Nat} (h : KS w base v ks m) (hm : m < ks.length) (k : Kb (ks.getD m (0, 0)).1 w w') : OS w' base v (ks.map sv) := h.1.kb k (h.2.1 m hm).2.2.1
theorem KS.slot {w : World} {base : Nat} {v : Value} {ks : List (Nat × Nat)} {m : Nat} (h : KS w base v ks m) {i : Nat} (hi : i < ks.length) : ∃ b c, v = .slice (some ⟨b, 0, none⟩) ks.length c ∧ w.cell? ⟨b, i, none⟩ = some (.slice (some ⟨(ks.getD i (0, 0)).1, 0, none⟩) (ks.getD i (0, 0)).2 (ks.getD i (0, 0)).2) := by
  obtain ⟨p, c, h1, h2⟩ := h.1.at
  rw [List.length_map] at h1
  rcases h2 with h2 | ⟨b, rfl, -, -, -, h6⟩
  · have : ks = [] := by simpa using h2
    subst this
    simp at hi
  · refine ⟨b, c, h1, ?_⟩
    rw [h6 i (by rw [List.length_map]; exact hi)]
    simp [List.getD, hi, sv]
theorem KS.len {w : World} {base : Nat} {v : Value} {ks : List (Nat × Nat)} {m : Nat} (h : KS w base v ks m) : ∃ p c, v = .slice p ks.length c := by
  obtain ⟨p, c, h1, -⟩ := h.1.at
  rw [List.length_map] at h1
  exact ⟨p, c, h1⟩
theorem KS.push {w w0 w' : World} {base : Nat} {v v' : Value} {ks ns : List (Nat × Nat)} (h : KS w0 base v ks 0) (hk : Kp w0 w) (hg : w.grownBy w' v.ownBlock) (ho : OS w' base v' (ks.map sv ++ ns.map sv)) (hv : v'.ownBlock = v.ownBlock ∨ v'.ownBlock = some w.heap.size)
    (hb : base ≤ w0.heap.size) (hn : ∀ k, k < ns.length → w0.heap.size ≤ (ns.getD k (0, 0)).1 ∧ (ns.getD k (0, 0)).2 ≤ 33 ∧ ∃ f, w.rowIs (ns.getD k (0, 0)).1 5 (ns.getD k (0, 0)).2 f)
    (hd : ∀ a b, a < ns.length → b < ns.length → a ≠ b → (ns.getD a (0, 0)).1 ≠ (ns.getD b (0, 0)).1) : KS w' base v' (ks ++ ns) 0 := by
  have hvl : ∀ b, v.ownBlock = some b → b < w0.heap.size := fun b hb => (World.ownsRow.lt h.1 b hb).2
  have far : ∀ {g n f}, w.rowIs g 5 n f → v.ownBlock ≠ some g → w'.rowIs g 5 n f := fun {g n f} hr hne => hr.of_block (hg.block g hr.lt (fun e => hne e.symm))
  have g1 : ∀ a, a < ks.length → (ks ++ ns).getD a (0, 0) = ks.getD a (0, 0) := fun a ha => by simp [List.getD, List.getElem?_append, ha]
  have g2 : ∀ a, ¬ a < ks.length → (ks ++ ns).getD a (0, 0) = ns.getD (a - ks.length) (0, 0) := fun a ha => by simp [List.getD, List.getElem?_append, ha]
  have old : ∀ a, a < ks.length → (ks.getD a (0, 0)).1 < w0.heap.size := fun a ha => by
    obtain ⟨_, _, _, ⟨f, hf⟩, _⟩ := h.2.1 a ha
    exact hf.lt
  refine ⟨by rw [List.map_append]; exact ho, fun k hk' => ?_, fun a b ha hb' hne => ?_⟩
  · rw [List.length_append] at hk'
    by_cases c : k < ks.length
    · rw [g1 k c]
      obtain ⟨h1, h2, h3, ⟨f, hf⟩, -⟩ := h.2.1 k c
      have hlt := old k c
      refine ⟨h1, h2, fun e => ?_, ⟨f, far (rowIs_grown hf hk) h3⟩, fun hc => absurd hc (Nat.not_lt_zero _)⟩
      rcases hv with hv | hv
      · rw [hv] at e; exact h3 e
      · rw [hv] at e
        have := hk.size
        have e' := Option.some.inj e
        omega
    · rw [g2 k c]
      obtain ⟨h1, h2, f, hf⟩ := hn (k - ks.length) (by omega)
      have hlt := hf.lt
      have hne : v.ownBlock ≠ some (ns.getD (k - ks.length) (0, 0)).1 := fun e => by have := hvl _ e; omega
      refine ⟨by omega, h2, fun e => ?_, ⟨f, far hf hne⟩, fun hc => absurd hc (Nat.not_lt_zero _)⟩
      rcases hv with hv | hv
      · rw [hv] at e; exact hne e
      · rw [hv] at e
        have e' := Option.some.inj e
        omega
  · rw [List.length_append] at ha hb'
    by_cases c1 : a < ks.length
    · by_cases c2 : b < ks.length
      · rw [g1 a c1, g1 b c2]; exact h.2.2 a b c1 c2 hne
      · rw [g1 a c1, g2 b c2]
        have := old a c1
        have := (hn (b - ks.length) (by omega)).1
        omega
    · by_cases c2 : b < ks.length
      · rw [g2 a c1, g1 b c2]
        have := old b c2
        have := (hn (a - ks.length) (by omega)).1
        omega
      · rw [g2 a c1, g2 b c2]
        exact hd _ _ (by omega) (by omega) (by omega)
def GS (w : World) (base : Nat) (v : Value) (ks : List (Nat × Nat)) (gs : List Value) : Prop :=
  OS w base v gs ∧ ∀ k, k < gs.length → ∃ b c, gs.getD k undef = .slice (some ⟨b, 0, none⟩) ((ks.getD k (0, 0)).2 + 81) c ∧ v.ownBlock ≠ some b ∧ Arr w (some ⟨b, 0, none⟩) (List.replicate ((ks.getD k (0, 0)).2 + 81) (mk k))
theorem GS.nil (w : World) (base : Nat) (ks : List (Nat × Nat)) : GS w base (.slice none 0 0) ks [] := ⟨OS.nil w base, fun k hk => by simp at hk⟩
theorem GS.kp {w w' : World} {base : Nat} {v : Value} {ks : List (Nat × Nat)} {gs : List Value} (h : GS w base v ks gs) (k : Kp w w') : GS w' base v ks gs :=
  ⟨h.1.kp k, fun i hi => let ⟨b, c, h1, h2, h3⟩ := h.2 i hi; ⟨b, c, h1, h2, h3.grown k⟩⟩
theorem arr_blk {w : World} {b : Nat} {xs : List Int} (h : Arr w (some ⟨b, 0, none⟩) xs) (hx : 0 < xs.length) : b < w.heap.size := by
  obtain ⟨b', off, e, hc⟩ := h.at hx
  obtain ⟨rfl, rfl⟩ : b = b' ∧ 0 = off := by simpa using e
  exact cell_lt (hc 0 hx)
theorem arr_far {w w' : World} {b : Nat} {xs : List Int} {row : Option Nat} (h : Arr w (some ⟨b, 0, none⟩) xs) (hg : w.grownBy w' row) (hne : row ≠ some b) : Arr w' (some ⟨b, 0, none⟩) xs := by
  rcases h with h | ⟨b', off, e, hc⟩
  · exact Or.inl h
  · obtain ⟨rfl, rfl⟩ : b = b' ∧ 0 = off := by simpa using e
    exact Or.inr ⟨b, 0, rfl, fun j hj => (hg.cell_far ⟨b, 0 + j, none⟩ (cell_lt (hc j hj)) (fun e => hne e.symm)).trans (hc j hj)⟩
theorem GS.push {w w0 w' : World} {base : Nat} {v v' : Value} {ks : List (Nat × Nat)} {gs : List Value} {b c i : Nat} (h : GS w0 base v ks gs) (hi : gs.length = i) (hk : Kp w0 w) (hg : w.grownBy w' v.ownBlock) (ho : OS w' base v' (gs ++ [.slice (some ⟨b, 0, none⟩) ((ks.getD i (0, 0)).2 + 81) c])) (hv : v'.ownBlock = v.ownBlock ∨ v'.ownBlock = some w.heap.size)
    (hb : w0.heap.size ≤ b) (ha : Arr w (some ⟨b, 0, none⟩) (List.replicate ((ks.getD i (0, 0)).2 + 81) (mk i))) : GS w' base v' ks (gs ++ [.slice (some ⟨b, 0, none⟩) ((ks.getD i (0, 0)).2 + 81) c]) := by
  have hvl : ∀ b, v.ownBlock = some b → b < w0.heap.size := fun b hb => (World.ownsRow.lt h.1 b hb).2
  refine ⟨ho, fun k hk' => ?_⟩
  rw [List.length_append, List.length_singleton] at hk'
  have nv : ∀ b, b < w.heap.size → v.ownBlock ≠ some b → v'.ownBlock ≠ some b := fun b hlt hne e => by
    rcases hv with hv | hv
    · rw [hv] at e; exact hne e
    · rw [hv] at e
      simp at e
      omega
  by_cases ck : k < gs.length
  · obtain ⟨b1, c1, h1, h2, h3⟩ := h.2 k ck
    have h3' := h3.grown hk
    refine ⟨b1, c1, ?_, nv b1 (arr_blk h3' (by simp)) h2, arr_far h3' hg h2⟩
    rw [← h1]
    simp [List.getD, List.getElem?_append, ck]
  · have e : k = i := by omega
    subst e
    have hne : v.ownBlock ≠ some b := fun e => by have := hvl _ e; omega
    refine ⟨b, c, ?_, nv b (arr_blk ha (by simp)) hne, arr_far ha hg hne⟩
    simp [List.getD, hi]
theorem GS.slot {w : World} {base : Nat} {v : Value} {ks : List (Nat × Nat)} {gs : List Value} (h : GS w base v ks gs) {i : Nat} (hi : i < gs.length) : ∃ b c g d, v = .slice (some ⟨b, 0, none⟩) gs.length c ∧ w.cell? ⟨b, i, none⟩ = some (.slice (some ⟨g, 0, none⟩) ((ks.getD i (0, 0)).2 + 81) d) ∧ ∀ j, j < (ks.getD i (0, 0)).2 + 81 → w.cell? ⟨g, j, none⟩ = some (.int .u8 (mk i)) := by
  obtain ⟨p, c, h1, h2⟩ := h.1.at
  rcases h2 with h2 | ⟨b, rfl, -, -, -, h6⟩
  · subst h2
    simp at hi
  · obtain ⟨g, d, e1, -, e3⟩ := h.2 i hi
    refine ⟨b, c, g, d, h1, by rw [h6 i hi, e1], fun j hj => ?_⟩
    obtain ⟨b', off, e, hc⟩ := e3.at (k := j) (by simpa using hj)
    obtain ⟨rfl, rfl⟩ : g = b' ∧ 0 = off := by simpa using e
    have := hc j (by simpa using hj)
    rw [Nat.zero_add] at this
    rw [this]
    rw [List.getD, List.getElem?_replicate, if_pos hj]
    rfl
set_option maxRecDepth 20000 in
theorem mark_ (k : Nat) (hk : k < 250) (w : World) : Calls Try.prog 25 #[.int .i64 (k : Int)] w fun e w' => e = .returned (.int .u8 (mk k)) ∧ w' = w := by
  have e1 : IntKind.u8.wrap ((k : Int) + 1) = (k : Int) + 1 := by rw [IntKind.wrap_u8]; omega
  have e2 : Int.tmod (k : Int) 250 = (k : Int) := by rw [Int.tmod_eq_of_lt] <;> omega
  go_enter Try.func25, Try.ntmps25
  go_wp2
  exact bodyPost_ret (v := .int .u8 (mk k)) (by simp [results, Try.results25, go_sem, mk]) rfl ⟨rfl, rfl⟩
theorem Kb.step {g : Nat} {w w' w'' : World} (h : Kb g w w') (k : Kp w' w'') : Kb g w w'' :=
  ⟨k.os.trans h.1, k.tape.trans h.2.1, k.output.trans h.2.2.1, Nat.le_trans h.2.2.2.1 k.size, fun i hi hne => (Below.block k i (Nat.lt_of_lt_of_le hi h.2.2.2.1)).trans (h.2.2.2.2 i hi hne)⟩
theorem if_app2 {P : Program} {w : World} {ops : Array Oper} {o : Oper} {a : Act} {K : Act → World → Prop} {Q : Exit → Act → World → Prop} (hw : Region.wanted o (yielded ops a.tmps) = true) (s x : Operand) (t : TypeId)
    (ho : o.op = .call { callee := .builtin .append, args := #[s, x], argTypes := #[t, t] }) (v u : Value) {R : Value → World → Prop} (hs : a.eval s = v) (hx : a.eval x = u)
    (hr : ∃ v' w', (Builtin.append_ #[t, t] o.type #[v, u]).run P w = .ok v' w' ∧ R v' w') (h : ∀ v' w', R v' w' → K (a.put o.dst v') w') : if Region.wanted o (yielded ops a.tmps) = true then Oper.wp P o a w K Q else K (a.put o.dst undef) w := by
  obtain ⟨v', w', hr, hR⟩ := hr
  rw [if_pos hw]
  unfold Oper.wp execOp
  simp only [ho, resolve, invoke, builtin, Sem.run_bind, Sem.run_pure, Result.andThen_ok, List.map_toArray, List.map_cons, List.map_nil, hs, hx, hr]
  exact h _ _ hR
theorem mkcell (w : World) (v : Value) (t : TypeId) : (w.alloc (.cells #[v] t)).cell? ⟨w.heap.size, 0, none⟩ = some v := by simp [go_sem]
end B8
end Go.Proofs.Ytcckdceijgdgoaa
