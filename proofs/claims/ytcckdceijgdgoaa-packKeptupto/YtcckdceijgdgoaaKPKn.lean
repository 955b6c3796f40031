import Derived.Test.YtcckdceijgdgoaaKPKl
namespace Go.Proofs.Ytcckdceijgdgoaa
open Go.RowKit
open Go
namespace B8
theorem getD_end8 (xs : List Int) (R : Int) (j : Nat) : (xs ++ [R]).getD j 0 = if j < xs.length then xs.getD j 0 else if j = xs.length then R else 0 := by
  by_cases c : j < xs.length
  · rw [if_pos c]; simp [List.getD, List.getElem?_append, c]
  · rw [if_neg c]
    by_cases d : j = xs.length
    · rw [if_pos d]; simp [List.getD, d]
    · rw [if_neg d]; simp [List.getD, List.getElem?_append, c, show ¬ j - xs.length = 0 from by omega]
set_option maxRecDepth 20000 in
set_option maxHeartbeats 1000000 in
theorem putdecoA_ (a b L H : Nat) (D R : Int) (xs : List Int) (hxs : xs.length = 16) (hR0 : 0 ≤ R) (hR1 : R < 256) (hr : ∀ w : World, Calls Try.prog 38 #[.agg #[.float .f64 a, .float .f64 b, .int .i64 D]] w fun e w' => e = .returned (.agg #[.float .f64 L, .float .f64 H, .int .i64 R]) ∧ Kp w w') (hp : ∀ w : World, Calls Try.prog 10 #[.agg #[.float .f64 L, .float .f64 H]] w fun e w' => ∃ g, e = .returned (.slice (some ⟨g, 0, none⟩) 16 16) ∧ w.heap.size ≤ g ∧ Rw w' g 16 xs ∧ Kp w w') (w : World) : Calls Try.prog 15 #[.agg #[.float .f64 a, .float .f64 b, .int .i64 D]] w fun e w' => ∃ g, e = .returned (.slice (some ⟨g, 0, none⟩) 17 17) ∧ w.heap.size ≤ g ∧ Rw w' g 17 (xs ++ [R]) ∧ Kp w w' := by
  have hmk : ∀ w : World, (Instr.makeSlice 35 (.int .i64 17) (.int .i64 17)).run Try.prog w = .ok (.slice (some ⟨w.heap.size, 0, none⟩) 17 17) (w.alloc (.cells (madeCells #[.int .u8 0] 17) 5)) := mk8 17 (by decide)
  go_enter Try.func15, Try.ntmps15
  go_upto_region 3 with (first | (go_at_call 38; refine (hr _).mono ?_; rintro e w1 ⟨rfl, g1⟩; have q0 := H3c.keep (H3c.new w (.float .f64 a) (.float .f64 b) (.int .i64 D) 41) g1; have kw : Kp w w1 := Kp.trans ((Kp.refl w).alloc _) g1; obtain ⟨x0, x1, x2, x3, x4, x5⟩ := id q0))
  have qx := H3c.put q0 (.float .f64 L) (.float .f64 H) (.int .i64 R)
  have kv : Kp w (((w1.setCell ⟨w.heap.size, 0, none⟩ (.float .f64 L)).setCell ⟨w.heap.size, 1, none⟩ (.float .f64 H)).setCell ⟨w.heap.size, 2, none⟩ (.int .i64 R)) := ((kw.setCell (Nat.le_refl _) _).setCell (Nat.le_refl _) _).setCell (Nat.le_refl _) _
  obtain ⟨W1, hW1⟩ : ∃ W1, W1 = ((w1.setCell ⟨w.heap.size, 0, none⟩ (.float .f64 L)).setCell ⟨w.heap.size, 1, none⟩ (.float .f64 H)).setCell ⟨w.heap.size, 2, none⟩ (.int .i64 R) := ⟨_, rfl⟩
  have hsz : W1.heap.size = w1.heap.size := by rw [hW1]; simp
  rw [← hW1] at qx kv ⊢
  obtain ⟨z0, z1, z2, -, -, -⟩ := id qx
  have hr0 := World.rowIs_made W1 (.int .u8 0) 17 5
  have hk0 : Kp W1 (W1.alloc (.cells (madeCells #[.int .u8 0] 17) 5)) := (Kp.refl W1).alloc _
  obtain ⟨G, hG⟩ : ∃ G, G = w1.heap.size := ⟨_, rfl⟩
  have hGe : W1.heap.size ≤ G := by omega
  rw [hsz, ← hG] at hr0
  rw [← hG]
  have hwG : w.heap.size ≤ G := Nat.le_trans (Below.size kv) hGe
  generalize W1.alloc (.cells (madeCells #[.int .u8 0] 17) 5) = W2 at hr0 hk0 ⊢
  obtain ⟨B, hB⟩ : ∃ B, B = w.heap.size := ⟨_, rfl⟩
  rw [← hB] at z0 z1 z2 ⊢
  have HWB : Hid (w.heap.size ≤ G) := hwG
  have HC1 : ∀ w : World, Calls Try.prog 29 #[.slice (some ⟨G, 0, none⟩) 17 17, .int .i64 0, .int .i64 16] w fun e w' => e = .returned (.slice (some ⟨G, 0, none⟩) 16 16) ∧ w' = w := cut_ G 0 17 17 0 16 (by decide) (by decide) (by decide)
  clear hW1 hsz hG x0 x1 x2 x3 x4 x5 q0 g1 kw hwG hB hr hmk qx
  go_region_held3 (fun w' => w'.cell? ⟨B, 0, none⟩ = some (.float .f64 L) ∧ w'.cell? ⟨B, 1, none⟩ = some (.float .f64 H) ∧ w'.cell? ⟨B, 2, none⟩ = some (.int .i64 R)) (refine ⟨kkeep (W := W1) ?_ z0, kkeep (W := W1) ?_ z1, kkeep (W := W1) ?_ z2⟩ <;> ((repeat (first | with_reducible exact ka3 | with_reducible exact ka2 | with_reducible exact hk0 | with_reducible exact Kp.refl _ | with_reducible refine Kp.drew ?_)); done)) (first | (go_at_call 10; refine (hp _).mono ?_; rintro e v2 ⟨g, rfl, hg, hR, k2⟩; have ka2 : Kp W1 v2 := Kp.trans ?qa k2; (case qa => ((repeat (first | with_reducible exact ka3 | with_reducible exact ka2 | with_reducible exact hk0 | with_reducible exact Kp.refl _ | with_reducible refine Kp.drew ?_)); done)); have kb2 : Kp W2 v2 := Kp.trans ?qb k2; (case qb => first | exact Kp.refl _ | exact (Kp.refl _).drew); obtain ⟨v3, hcp, hr3, hk3⟩ := copy8 v2 G 17 0 16 16 16 (some ⟨g, 0, none⟩) xs _ (rowIs_grown hr0 kb2) (arr_all hR hxs) hxs (by decide); have ka3 : Kp W1 v3 := hk3 W1 hGe ka2) | (go_at_call 29; refine (HC1 _).mono ?_; rintro e w' ⟨rfl, rfl⟩))
  have e16 := hr3.cell (i := 16) (by decide)
  have f16 := hr3.frozen 16
  have y2 := kkeep ka3 z2
  have hcv : R % 256 = R := by omega
  have hR : Rw (v3.setCell ⟨G, 16, none⟩ (.int .u8 R)) G 17 (xs ++ [R]) := World.rowIs.congr (hr3.set 16 (.int .u8 R)) (fun j hj => by
    rw [getD_end8, hxs]
    by_cases c : j = 16
    · rw [if_pos c, if_neg (by omega), if_pos c]
    · rw [if_neg c, if_pos ⟨Nat.zero_le _, by omega⟩, if_pos (by omega)]; rfl)
  have hK : Kp w (v3.setCell ⟨G, 16, none⟩ (.int .u8 R)) := (Kp.trans kv ka3).setCell HWB.out _
  clear hr3 ka3 ka2 kb2 k2 hk3 hr0 hk0 z0 z1 z2 hcp
  go_wp2
  have hle := HWB.out
  exact bodyPost_ret (v := .slice (some ⟨G, 0, none⟩) 17 17) (by simp [results, Try.results15, go_sem]) rfl ⟨G, rfl, hle, hR, hK⟩
end B8
end Go.Proofs.Ytcckdceijgdgoaa
