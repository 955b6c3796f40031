import Derived.Test.YtcckdceijgdgoaaKDCd
import Derived.Test.YtcckdceijgdgoaaKPLf
import Derived.Test.YtcckdceijgdgoaaKPTa
import Derived.Test.YtcckdceijgdgoaaKPXl
namespace Go.Proofs.Ytcckdceijgdgoaa
open Go.RowKit
open Go
namespace B8
theorem putdec_ (a b : Nat) (D : Int) (ha : a < 18446744073709551616) (hb : b < 18446744073709551616) : ∃ xs : List Int, xs.length = 17 ∧ ∀ W : World, Calls Try.prog 15 #[.agg #[.float .f64 a, .float .f64 b, .int .i64 D]] W fun e w' => ∃ g, e = .returned (.slice (some ⟨g, 0, none⟩) 17 17) ∧ W.heap.size ≤ g ∧ Rw w' g 17 xs ∧ Kp W w' := by
  obtain ⟨L, H, r⟩ := Rd.ex a b ha hb
  have hr0 := dread_ a b L H D r
  have hRb : 0 ≤ dR a b L (dN L H D) ∧ dR a b L (dN L H D) < 256 := by
    have h1 : 0 ≤ dN L H D ∧ dN L H D < 256 := by
      unfold dN fallN
      repeat' split
      all_goals omega
    unfold dR
    split <;> omega
  have hz : ∃ L2 H2, Rd (dL a b L (dN L H D)) (dH a b L H (dN L H D)) L2 H2 ∧ dL a b L (dN L H D) = pw L2 ∧ dH a b L H (dN L H D) = pw H2 := by
    unfold dL dH
    by_cases c : dN L H D = 0 ∨ (L = 9218868437227405312 ∧ ¬ (a = 9218868437227405312 ∧ b = 18442240474082181120))
    · rw [if_pos c, if_pos c]
      have v : VdZ 9218868437227405312 (-9218868437227405312) := Or.inl ⟨rfl, rfl⟩
      have r := Rd.of v
      rw [pw_I, pw_MI] at r
      exact ⟨_, _, r, pw_I.symm, pw_MI.symm⟩
    · rw [if_neg c, if_neg c]
      exact ⟨_, _, Rd.of r.vd, rfl, rfl⟩
  obtain ⟨L2, H2, hz, e1, e2⟩ := hz
  have hp0 := put_ _ _ (pw L2) (pw H2) hz.call
  rw [← e1, ← e2] at hp0
  have hl0 : (by8 (dL a b L (dN L H D)) ++ by8 (dH a b L H (dN L H D))).length = 16 := by rw [List.length_append, by8_len, by8_len]
  exact ⟨_, by rw [List.length_append, hl0]; rfl, putdecoA_ a b _ _ D _ _ hl0 hRb.1 hRb.2 hr0 hp0⟩
theorem mkcells (w : World) (vs : List Value) (t : TypeId) : ∀ j u, vs[j]? = some u → (w.alloc (.cells vs.toArray t)).cell? ⟨w.heap.size, j, none⟩ = some u := by
  intro j u h
  simp [go_sem, h]
theorem ag1 (w : World) (x y : Nat) : AG FLV (w.alloc (.cells #[.float .f64 x, .float .f64 y] 31)) (some ⟨w.heap.size, 0, none⟩) [(x, y)] := Or.inr ⟨_, 0, rfl, fun j hj => by
  match j, hj with
  | 0, _ => simp [go_sem, FLV]⟩
theorem og1 (w : World) (x y : Nat) : OG FLV 31 (w.alloc (.cells #[.float .f64 x, .float .f64 y] 31)) w.heap.size (.slice (some ⟨w.heap.size, 0, none⟩) 1 1) [(x, y)] := by
  refine ⟨rfl, Or.inr ⟨w.heap.size, 1, #[.float .f64 x, .float .f64 y], rfl, Nat.le_refl _, heap_alloc_new w _, Nat.le_refl _, by unfold maxLen; omega, rfl, rfl⟩⟩
theorem wq1 {q : Nat × Nat} (h : q.1 < 18446744073709551616 ∧ q.2 < 18446744073709551616) : Wq [q] := fun k => by
  match k with
  | 0 => exact h
  | k + 1 => exact ⟨by simp, by simp⟩
theorem wq2 {q r : Nat × Nat} (h : q.1 < 18446744073709551616 ∧ q.2 < 18446744073709551616) (h2 : r.1 < 18446744073709551616 ∧ r.2 < 18446744073709551616) : Wq [q, r] := fun k => by
  match k with
  | 0 => exact h
  | 1 => exact h2
  | k + 2 => exact ⟨by simp, by simp⟩
theorem six {w0 w : World} {g1 g2 g3 g4 g5 g6 m : Nat} (hm : m ≤ 33) (r1 : ∃ f, w.rowIs g1 5 16 f) (r2 : ∃ f, w.rowIs g2 5 16 f) (r3 : ∃ f, w.rowIs g3 5 17 f) (r4 : ∃ f, w.rowIs g4 5 17 f) (r5 : ∃ f, w.rowIs g5 5 m f) (r6 : ∃ f, w.rowIs g6 5 m f) (h5 : w0.heap.size ≤ g5) (h56 : g5 < g6) (h61 : g6 < g1) (h12 : g1 < g2) (h23 : g2 < g3) (h34 : g3 < g4) :
    (∀ k, k < [(g1, 16), (g2, 16), (g3, 17), (g4, 17), (g5, m), (g6, m)].length → w0.heap.size ≤ ([(g1, 16), (g2, 16), (g3, 17), (g4, 17), (g5, m), (g6, m)].getD k (0, 0)).1 ∧ ([(g1, 16), (g2, 16), (g3, 17), (g4, 17), (g5, m), (g6, m)].getD k (0, 0)).2 ≤ 33 ∧ ∃ f, w.rowIs ([(g1, 16), (g2, 16), (g3, 17), (g4, 17), (g5, m), (g6, m)].getD k (0, 0)).1 5 ([(g1, 16), (g2, 16), (g3, 17), (g4, 17), (g5, m), (g6, m)].getD k (0, 0)).2 f) ∧
    (∀ a b, a < [(g1, 16), (g2, 16), (g3, 17), (g4, 17), (g5, m), (g6, m)].length → b < [(g1, 16), (g2, 16), (g3, 17), (g4, 17), (g5, m), (g6, m)].length → a ≠ b → ([(g1, 16), (g2, 16), (g3, 17), (g4, 17), (g5, m), (g6, m)].getD a (0, 0)).1 ≠ ([(g1, 16), (g2, 16), (g3, 17), (g4, 17), (g5, m), (g6, m)].getD b (0, 0)).1) := by
  constructor
  · intro k hk
    match k, hk with
    | 0, _ => exact ⟨show w0.heap.size ≤ g1 by omega, show 16 ≤ 33 by omega, r1⟩
    | 1, _ => exact ⟨show w0.heap.size ≤ g2 by omega, show 16 ≤ 33 by omega, r2⟩
    | 2, _ => exact ⟨show w0.heap.size ≤ g3 by omega, show 17 ≤ 33 by omega, r3⟩
    | 3, _ => exact ⟨show w0.heap.size ≤ g4 by omega, show 17 ≤ 33 by omega, r4⟩
    | 4, _ => exact ⟨show w0.heap.size ≤ g5 by omega, hm, r5⟩
    | 5, _ => exact ⟨show w0.heap.size ≤ g6 by omega, hm, r6⟩
    | k + 6, hk => simp at hk; omega
  · intro a b ha hb hne
    have ha : a < 6 := ha
    have hb : b < 6 := hb
    rcases (by omega : a = 0 ∨ a = 1 ∨ a = 2 ∨ a = 3 ∨ a = 4 ∨ a = 5) with rfl | rfl | rfl | rfl | rfl | rfl <;> rcases (by omega : b = 0 ∨ b = 1 ∨ b = 2 ∨ b = 3 ∨ b = 4 ∨ b = 5) with rfl | rfl | rfl | rfl | rfl | rfl <;> first | exact absurd rfl hne | (simp; omega)
theorem six_run {w wr w5 W : World} {v : Value} {ks : List (Nat × Nat)} {g1 g2 g3 g4 g5 g6 m B1 bq : Nat} {Y1 Y2 : Value} {xs ds bs : List Int} (hks : KS wr w.heap.size v ks 0) (hlen : ks.length ≤ 240) (hkp : Kp w wr) (z5 : Kp wr w5) (k : Kp w5 W) (hm : m ≤ 33)
    (r1 : Rw W g1 16 xs) (r2 : Rw W g2 16 xs) (r3 : Rw W g3 17 ds) (r4 : Rw W g4 17 ds) (r5 : Rw W g5 m bs) (r6 : Rw W g6 m bs) (h5 : wr.heap.size ≤ g5) (h56 : g5 < g6) (h61 : g6 < g1) (h12 : g1 < g2) (h23 : g2 < g3) (h34 : g3 < g4) (l16 : xs.length = 16) (l17 : ds.length = 17) (hB : wr.heap.size ≤ B1) (x0 : W.cell? ⟨B1, 0, none⟩ = some Y1) (x1 : W.cell? ⟨B1, 1, none⟩ = some Y2)
    (hc : ∀ j u, [Value.slice (some ⟨g1, 0, none⟩) 16 16, .slice (some ⟨g2, 0, none⟩) 16 16, .slice (some ⟨g3, 0, none⟩) 17 17, .slice (some ⟨g4, 0, none⟩) 17 17, .slice (some ⟨g5, 0, none⟩) m m, .slice (some ⟨g6, 0, none⟩) m m][j]? = some u → W.cell? ⟨bq, j, none⟩ = some u) :
    ∃ v' w', (Builtin.append_ #[59, 59] 59 #[v, .slice (some ⟨bq, 0, none⟩) 6 6]).run Try.prog W = .ok v' w' ∧ (KS w' w.heap.size v' (ks ++ [(g1, 16), (g2, 16), (g3, 17), (g4, 17), (g5, m), (g6, m)]) 0 ∧ Kp w w' ∧ w'.cell? ⟨B1, 0, none⟩ = some Y1 ∧ w'.cell? ⟨B1, 1, none⟩ = some Y2 ∧ Arr w' (some ⟨g1, 0, none⟩) xs ∧ Arr w' (some ⟨g2, 0, none⟩) xs ∧ Arr w' (some ⟨g3, 0, none⟩) ds ∧ Arr w' (some ⟨g4, 0, none⟩) ds) := by
  have kW : Kp wr W := Kp.trans z5 k
  obtain ⟨v', w', hr, ho, hg, hat⟩ := appS_run W w.heap.size v (ks.map sv) ([(g1, 16), (g2, 16), (g3, 17), (g4, 17), (g5, m), (g6, m)].map sv) bq 6 6 (hks.1.kp kW) hc (fun u hu => by obtain ⟨q, -, rfl⟩ := List.mem_map.1 hu; rfl) rfl (by rw [List.length_map]; omega) (Below.size (Kp.trans hkp kW))
  have hvl : ∀ b, v.ownBlock = some b → b < wr.heap.size := fun b hb => (World.ownsRow.lt hks.1 b hb).2
  have ne : ∀ b, wr.heap.size ≤ b → v.ownBlock ≠ some b := fun b hb e => by have := hvl b e; omega
  have hs := six (w0 := wr) (w := W) hm ⟨_, r1⟩ ⟨_, r2⟩ ⟨_, r3⟩ ⟨_, r4⟩ ⟨_, r5⟩ ⟨_, r6⟩ h5 h56 h61 h12 h23 h34
  refine ⟨v', w', hr, KS.push hks kW hg ho hat (Below.size hkp) hs.1 hs.2, (Kp.trans hkp kW).grown hg (fun b hb => (World.ownsRow.lt hks.1 b hb).1), ?_, ?_, arr_far (arr_all r1 l16) hg (ne _ (by omega)), arr_far (arr_all r2 l16) hg (ne _ (by omega)), arr_far (arr_all r3 l17) hg (ne _ (by omega)), arr_far (arr_all r4 l17) hg (ne _ (by omega))⟩
  · exact (hg.cell_far ⟨B1, 0, none⟩ (cell_lt x0) (fun e => ne B1 hB e.symm)).trans x0
  · exact (hg.cell_far ⟨B1, 1, none⟩ (cell_lt x1) (fun e => ne B1 hB e.symm)).trans x1
end B8
end Go.Proofs.Ytcckdceijgdgoaa
