import Derived.Test.YtipedmnipolmeaaKXRa
import Derived.Lib.SliceRun
import Derived.Maps.AppendAt
namespace Go.Proofs.Ytipedmnipolmeaa
open Go.RowKit
open Go
namespace X7
set_option linter.unusedVariables false
theorem kkeepA {W w : World} {a : Addr} {v : Value} (g : Kp W w) (h : W.cell? a = some v) : w.cell? a = some v := by
  have hl : a.block < W.heap.size := by
    unfold World.cell? at h
    by_cases c : a.block < W.heap.size
    · exact c
    · rw [Array.getElem?_eq_none (by simpa using c)] at h; simp at h
  have e := Below.block g a.block hl
  unfold World.cell? at h ⊢
  rw [e]; exact h
theorem own0 (w : World) (T : TypeId) (k : Nat) : (w.alloc (.cells #[] T)).ownsRow w.heap.size T k (.slice (some ⟨w.heap.size, 0, none⟩) 0 0) 0 [] :=
  ⟨by simp, .inr ⟨w.heap.size, 0, #[], rfl, Nat.le_refl _, heap_alloc_new w _, Nat.le_refl _, by simp [maxLen], by simp, by simp⟩⟩
theorem flat_cells {f : Nat → Value} {w : World} {b off : Nat} {sp : Option Nat} {ps : List (Nat × Nat)} (h : AG f w (some ⟨b, off, sp⟩) ps) : ∀ j u, (flat f ps)[j]? = some u → w.cell? ((⟨b, off, sp⟩ : Addr).add j) = some u := by
  intro j u hu
  have hj : j < ps.length * 2 := by
    rw [← flat_len f ps]; exact (List.getElem?_eq_some_iff.1 hu).1
  rcases h with rfl | ⟨b', off', hp, hc⟩
  · simp at hj
  · obtain ⟨rfl, rfl, rfl⟩ : b = b' ∧ off = off' ∧ sp = none := by simpa using hp
    rw [addr_add]
    have hk : j / 2 < ps.length := by omega
    have e := flat_get f ps (j / 2) hk
    have c := hc (j / 2) hk
    by_cases h2 : j % 2 = 0
    · have hj2 : j / 2 * 2 = j := by omega
      rw [hj2] at e c
      rw [e.1] at hu
      rw [c.1]; exact hu
    · have hj2 : j / 2 * 2 + 1 = j := by omega
      rw [hj2] at e
      have e2 := e.2
      rw [e2] at hu
      have c2 := c.2
      rw [show off + j / 2 * 2 + 1 = off + j from by omega] at c2
      rw [c2]; exact hu
theorem flat5_cells {w : World} {b off : Nat} {sp : Option Nat} {L : List I5} (h : AI w (some ⟨b, off, sp⟩) L) : ∀ j u, (flat5 L)[j]? = some u → w.cell? ((⟨b, off, sp⟩ : Addr).add j) = some u := by
  intro j u hu
  have hj : j < L.length * 5 := by
    rw [← flat5_len L]; exact (List.getElem?_eq_some_iff.1 hu).1
  rcases h with rfl | ⟨b', off', hp, hc⟩
  · simp at hj
  · obtain ⟨rfl, rfl, rfl⟩ : b = b' ∧ off = off' ∧ sp = none := by simpa using hp
    rw [addr_add]
    have hk : j / 5 < L.length := by omega
    obtain ⟨e0, e1, e2, e3, e4⟩ := flat5_get L (j / 5) hk
    obtain ⟨c0, c1, c2, c3, c4⟩ := hc (j / 5) hk
    have h5 : j % 5 = 0 ∨ j % 5 = 1 ∨ j % 5 = 2 ∨ j % 5 = 3 ∨ j % 5 = 4 := by omega
    rcases h5 with h | h | h | h | h
    · rw [show j / 5 * 5 = j from by omega] at e0
      rw [show off + j / 5 * 5 = off + j from by omega] at c0
      rw [e0] at hu; rw [c0]; exact hu
    · rw [show j / 5 * 5 + 1 = j from by omega] at e1
      rw [show off + j / 5 * 5 + 1 = off + j from by omega] at c1
      rw [e1] at hu; rw [c1]; exact hu
    · rw [show j / 5 * 5 + 2 = j from by omega] at e2
      rw [show off + j / 5 * 5 + 2 = off + j from by omega] at c2
      rw [e2] at hu; rw [c2]; exact hu
    · rw [show j / 5 * 5 + 3 = j from by omega] at e3
      rw [show off + j / 5 * 5 + 3 = off + j from by omega] at c3
      rw [e3] at hu; rw [c3]; exact hu
    · rw [show j / 5 * 5 + 4 = j from by omega] at e4
      rw [show off + j / 5 * 5 + 4 = off + j from by omega] at c4
      rw [e4] at hu; rw [c4]; exact hu
theorem flat_one (ps : List (Nat × Nat)) : ∀ u ∈ flat FLV ps, u.oneCell' = true := by
  induction ps with
  | nil => intro u hu; cases hu
  | cons q r ih =>
    intro u hu
    simp only [flat, List.mem_cons] at hu
    rcases hu with rfl | rfl | hu
    · rfl
    · rfl
    · exact ih u hu
theorem flat5_one (L : List I5) : ∀ u ∈ flat5 L, u.oneCell' = true := by
  induction L with
  | nil => intro u hu; cases hu
  | cons q r ih =>
    intro u hu
    simp only [flat5, List.mem_cons] at hu
    rcases hu with rfl | rfl | rfl | rfl | rfl | hu
    · rfl
    · rfl
    · rfl
    · rfl
    · rfl
    · exact ih u hu
set_option maxRecDepth 20000 in
set_option maxHeartbeats 2000000 in
theorem cloneI_ (p : Option Addr) (c : Nat) (ps : List (Nat × Nat)) (w : World) (hx : AG FLV w p ps) (lx : ps.length ≤ 1048576) :
    Calls Try.prog 27 #[.slice p ps.length c] w fun e w' => ∃ pa ca, e = .returned (.slice pa ps.length ca) ∧ OG FLV 71 w' w.heap.size (.slice pa ps.length ca) ps ∧ Kp w w' := by
  have qT : ∀ (w : World) (a : Option Addr) (n c n' c' : Nat), (binOp .eql 29 (.slice a n c) (.slice none n' c')).run Try.prog w = .ok (.bool a.isNone) w := fun w a n c n' c' => Lib.run_eql_slice_nil w _ _ a n c n' c' Try.underlying29
  rcases p with _ | ⟨b, off, sp⟩
  · have : ps = [] := by
      rcases hx with h | ⟨b, off, h, -⟩
      · exact h
      · cases h
    subst this
    clear hx lx
    rw [List.length_nil]
    go_enter Try.func27, Try.ntmps27
    go_wp2
    exact bodyPost_ret (v := .slice none 0 0) (by simp [results, Try.results27, go_sem]) rfl ⟨none, 0, rfl, OG.nil FLV 71 w w.heap.size, Kp.refl w⟩
  · obtain ⟨i0, hi0, hi1, hi2, hi3⟩ := infF
    have hcl := flat_cells hx
    have hln := flat_len FLV ps
    have hon := flat_one ps
    have hk0 : Kp w (w.alloc (.cells #[] 71)) := (Kp.refl w).alloc _
    have hcl2 : ∀ j u, (flat FLV ps)[j]? = some u → (w.alloc (.cells #[] 71)).cell? ((⟨b, off, sp⟩ : Addr).add j) = some u := fun j u hu => kkeepA hk0 (hcl j u hu)
    obtain ⟨N, hN⟩ : ∃ N, N = ps.length := ⟨_, rfl⟩
    obtain ⟨fs, hfs⟩ : ∃ fs, fs = flat FLV ps := ⟨_, rfl⟩
    rw [← hN] at lx hln ⊢
    rw [← hfs] at hcl2 hln hon
    have HF : Hid (N = ps.length ∧ fs = flat FLV ps) := ⟨hN, hfs⟩
    clear hx hcl hN hfs
    go_enter Try.func27, Try.ntmps27
    go_wp2_with (first | (at_builtin; refine wpList_append_own _ rfl _ _ 29 rfl w.heap.size 71 i0 (.agg #[.float .f64 0, .float .f64 0]) 2 16 Try.underlying29 hi0 hi1 hi2 hi3 rfl (by decide) _ _ _ rfl (own0 w 71 2) ⟨b, off, sp⟩ N c fs rfl hln hcl2 hon ?c3 ?c4 ?c5 ?_))
    case c3 => unfold maxLen; omega
    case c4 => omega
    case c5 => simp
    intro v' w2 hown2 hgrow _
    have hO : OG FLV 71 w2 w.heap.size v' ps := by
      have h := hown2
      rw [HF.out.1, HF.out.2] at h
      exact h
    have hK2 : Kp w w2 := hk0.grown hgrow (fun k hk => by simp [Value.ownBlock] at hk; omega)
    obtain ⟨pa, ca, rfl, h9⟩ := hO.arr
    rw [← HF.out.1] at hO ⊢
    clear hown2 hgrow h9 hcl2 hln hon hk0
    go_wp2
    exact bodyPost_ret (v := .slice pa N ca) (by simp [results, Try.results27, go_sem]) rfl ⟨pa, ca, rfl, hO, hK2⟩
set_option maxRecDepth 20000 in
set_option maxHeartbeats 2000000 in
theorem cloneN_ (p : Option Addr) (c : Nat) (ps : List I5) (w : World) (hx : AI w p ps) (lx : ps.length ≤ 1048576) :
    Calls Try.prog 28 #[.slice p ps.length c] w fun e w' => ∃ pa ca, e = .returned (.slice pa ps.length ca) ∧ OI 62 w' w.heap.size (.slice pa ps.length ca) ps ∧ Kp w w' := by
  have qT : ∀ (w : World) (a : Option Addr) (n c n' c' : Nat), (binOp .eql 30 (.slice a n c) (.slice none n' c')).run Try.prog w = .ok (.bool a.isNone) w := fun w a n c n' c' => Lib.run_eql_slice_nil w _ _ a n c n' c' Try.underlying30
  rcases p with _ | ⟨b, off, sp⟩
  · have : ps = [] := by
      rcases hx with h | ⟨b, off, h, -⟩
      · exact h
      · cases h
    subst this
    clear hx lx
    rw [List.length_nil]
    go_enter Try.func28, Try.ntmps28
    go_wp2
    exact bodyPost_ret (v := .slice none 0 0) (by simp [results, Try.results28, go_sem]) rfl ⟨none, 0, rfl, OI.nil 62 w w.heap.size, Kp.refl w⟩
  · obtain ⟨i0, hi0, hi1, hi2, hi3⟩ := infN
    have hcl := flat5_cells hx
    have hln := flat5_len ps
    have hon := flat5_one ps
    have hk0 : Kp w (w.alloc (.cells #[] 62)) := (Kp.refl w).alloc _
    have hcl2 : ∀ j u, (flat5 ps)[j]? = some u → (w.alloc (.cells #[] 62)).cell? ((⟨b, off, sp⟩ : Addr).add j) = some u := fun j u hu => kkeepA hk0 (hcl j u hu)
    obtain ⟨N, hN⟩ : ∃ N, N = ps.length := ⟨_, rfl⟩
    obtain ⟨fs, hfs⟩ : ∃ fs, fs = flat5 ps := ⟨_, rfl⟩
    rw [← hN] at lx hln ⊢
    rw [← hfs] at hcl2 hln hon
    have HF : Hid (N = ps.length ∧ fs = flat5 ps) := ⟨hN, hfs⟩
    clear hx hcl hN hfs
    go_enter Try.func28, Try.ntmps28
    go_wp2_with (first | (at_builtin; refine wpList_append_own _ rfl _ _ 30 rfl w.heap.size 62 i0 (.agg #[.int .i64 0, .int .i64 0, .int .i64 0, .int .i64 0, .int .i64 0]) 5 40 Try.underlying30 hi0 hi1 hi2 hi3 rfl (by decide) _ _ _ rfl (own0 w 62 5) ⟨b, off, sp⟩ N c fs rfl hln hcl2 hon ?c3 ?c4 ?c5 ?_))
    case c3 => unfold maxLen; omega
    case c4 => omega
    case c5 => simp
    intro v' w2 hown2 hgrow _
    have hO : OI 62 w2 w.heap.size v' ps := by
      have h := hown2
      rw [HF.out.1, HF.out.2] at h
      exact h
    have hK2 : Kp w w2 := hk0.grown hgrow (fun k hk => by simp [Value.ownBlock] at hk; omega)
    obtain ⟨pa, ca, rfl, h9⟩ := hO.arr
    rw [← HF.out.1] at hO ⊢
    clear hown2 hgrow h9 hcl2 hln hon hk0
    go_wp2
    exact bodyPost_ret (v := .slice pa N ca) (by simp [results, Try.results28, go_sem]) rfl ⟨pa, ca, rfl, hO, hK2⟩
end X7
end Go.Proofs.Ytipedmnipolmeaa
