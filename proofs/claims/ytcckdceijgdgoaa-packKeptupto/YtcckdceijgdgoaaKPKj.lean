import Derived.Test.YtcckdceijgdgoaaKEH
import Derived.Test.YtcckdceijgdgoaaKPKb
namespace Go.Proofs.Ytcckdceijgdgoaa
open Go.RowKit
open Go
namespace B8
theorem getD_two (X Y j : Nat) : (by8 X ++ by8 Y).getD j 0 = if j < 8 then (by8 X).getD j 0 else (by8 Y).getD (j - 8) 0 := by
  by_cases c : j < 8
  · rw [if_pos c]; simp [List.getD, List.getElem?_append, by8_len, c]
  · rw [if_neg c]; simp [List.getD, List.getElem?_append, by8_len, c]
set_option maxRecDepth 20000 in
set_option maxHeartbeats 1000000 in
theorem put_ (a b L H : Nat) (hr : ∀ w : World, Calls Try.prog 31 #[.agg #[.float .f64 a, .float .f64 b]] w fun e w' => e = .returned (.agg #[.float .f64 L, .float .f64 H]) ∧ Kp w w') (w : World) : Calls Try.prog 10 #[.agg #[.float .f64 a, .float .f64 b]] w fun e w' => ∃ g, e = .returned (.slice (some ⟨g, 0, none⟩) 16 16) ∧ w.heap.size ≤ g ∧ Rw w' g 16 (by8 L ++ by8 H) ∧ Kp w w' := by
  have hmk : ∀ w : World, (Instr.makeSlice 35 (.int .i64 16) (.int .i64 16)).run Try.prog w = .ok (.slice (some ⟨w.heap.size, 0, none⟩) 16 16) (w.alloc (.cells (madeCells #[.int .u8 0] 16) 5)) := mk8 16 (by decide)
  go_enter Try.func10, Try.ntmps10
  go_upto_region 3 with (first | (go_at_call 31; refine (hr _).mono ?_; rintro e w1 ⟨rfl, g1⟩; have q0 := Fq.H2.keep (Fq.H2.new w (.float .f64 a) (.float .f64 b) 31) g1; have kw : Kp w w1 := Kp.trans ((Kp.refl w).alloc _) g1; obtain ⟨x0, x1, x2, x3⟩ := id q0))
  have qx := Fq.H2.put q0 (.float .f64 L) (.float .f64 H)
  have kv : Kp w ((w1.setCell ⟨w.heap.size, 0, none⟩ (.float .f64 L)).setCell ⟨w.heap.size, 1, none⟩ (.float .f64 H)) := (kw.setCell (Nat.le_refl _) _).setCell (Nat.le_refl _) _
  obtain ⟨W1, hW1⟩ : ∃ W1, W1 = (w1.setCell ⟨w.heap.size, 0, none⟩ (.float .f64 L)).setCell ⟨w.heap.size, 1, none⟩ (.float .f64 H) := ⟨_, rfl⟩
  have hsz : W1.heap.size = w1.heap.size := by rw [hW1]; simp
  rw [← hW1] at qx kv ⊢
  obtain ⟨z0, z1, -, -⟩ := id qx
  have hr0 := World.rowIs_made W1 (.int .u8 0) 16 5
  have hk0 : Kp W1 (W1.alloc (.cells (madeCells #[.int .u8 0] 16) 5)) := (Kp.refl W1).alloc _
  obtain ⟨G, hG⟩ : ∃ G, G = w1.heap.size := ⟨_, rfl⟩
  have hGe : W1.heap.size ≤ G := by omega
  rw [hsz, ← hG] at hr0
  rw [← hG]
  have hwG : w.heap.size ≤ G := Nat.le_trans (Below.size kv) hGe
  generalize W1.alloc (.cells (madeCells #[.int .u8 0] 16) 5) = W2 at hr0 hk0 ⊢
  obtain ⟨B, hB⟩ : ∃ B, B = w.heap.size := ⟨_, rfl⟩
  rw [← hB] at z0 z1 ⊢
  have HWB : Hid (w.heap.size ≤ G) := hwG
  have HC1 : ∀ w : World, Calls Try.prog 29 #[.slice (some ⟨G, 0, none⟩) 16 16, .int .i64 0, .int .i64 8] w fun e w' => e = .returned (.slice (some ⟨G, 0, none⟩) 8 8) ∧ w' = w := cut_ G 0 16 16 0 8 (by decide) (by decide) (by decide)
  have HC2 : ∀ w : World, Calls Try.prog 29 #[.slice (some ⟨G, 0, none⟩) 16 16, .int .i64 8, .int .i64 8] w fun e w' => e = .returned (.slice (some ⟨G, 8, none⟩) 8 8) ∧ w' = w := by
    have := cut_ G 0 16 16 8 8 (by decide) (by decide) (by decide)
    rw [Nat.zero_add] at this
    exact this
  have HL1 := lay_ G 0 16 8 L
  have HL2 := lay_ G 8 16 8 H
  clear hW1 hsz hG x0 x1 x2 x3 q0 g1 kw hwG hB hr hmk qx
  go_region_held3 (fun w' => w'.cell? ⟨B, 0, none⟩ = some (.float .f64 L) ∧ w'.cell? ⟨B, 1, none⟩ = some (.float .f64 H)) (refine ⟨kkeep (W := W1) ?_ z0, kkeep (W := W1) ?_ z1⟩ <;> ((repeat (first | with_reducible exact ka2 | with_reducible exact ka1 | with_reducible exact hk0 | with_reducible exact Kp.refl _ | with_reducible refine Kp.drew ?_)); done)) (first | (go_at_call 32; refine (HL1 ?ff1 _ ?qa1 ?qb1).mono ?_; (case qa1 => exact hr0); (case qb1 => decide); rintro e v1 ⟨rfl, hr1, hk1⟩; have ka1 : Kp W1 v1 := hk1 W1 hGe ?q3; (case q3 => ((repeat (first | with_reducible exact ka2 | with_reducible exact ka1 | with_reducible exact hk0 | with_reducible exact Kp.refl _ | with_reducible refine Kp.drew ?_)); done))) | (go_at_call 29; refine (HC1 _).mono ?_; rintro e w' ⟨rfl, rfl⟩))
  clear HC1 HL1
  go_upto_region 4 with fail
  go_region_held3 (fun w' => w'.cell? ⟨B, 0, none⟩ = some (.float .f64 L) ∧ w'.cell? ⟨B, 1, none⟩ = some (.float .f64 H)) (refine ⟨kkeep (W := W1) ?_ z0, kkeep (W := W1) ?_ z1⟩ <;> ((repeat (first | with_reducible exact ka2 | with_reducible exact ka1 | with_reducible exact hk0 | with_reducible exact Kp.refl _ | with_reducible refine Kp.drew ?_)); done)) (first | (go_at_call 32; refine (HL2 ?ff2 _ ?qa2 ?qb2).mono ?_; (case qa2 => exact hr1); (case qb2 => decide); rintro e v2 ⟨rfl, hr2, hk2⟩; have ka2 : Kp W1 v2 := hk2 W1 hGe ?q3; (case q3 => ((repeat (first | with_reducible exact ka2 | with_reducible exact ka1 | with_reducible exact hk0 | with_reducible exact Kp.refl _ | with_reducible refine Kp.drew ?_)); done))) | (go_at_call 29; refine (HC2 _).mono ?_; rintro e w' ⟨rfl, rfl⟩))
  have hR : Rw v2 G 16 (by8 L ++ by8 H) := World.rowIs.congr hr2 (fun j hj => by
    rw [getD_two]
    by_cases c : j < 8
    · rw [if_neg (by omega), if_pos ⟨Nat.zero_le _, by omega⟩, if_pos c]; rfl
    · rw [if_pos ⟨by omega, by omega⟩, if_neg c])
  have hK : Kp w v2 := Kp.trans kv ka2
  clear hr1 hr2 ka1 ka2 hk1 hk2 hr0 hk0 HC2 HL2 z0 z1
  go_wp2
  have hle := HWB.out
  exact bodyPost_ret (v := .slice (some ⟨G, 0, none⟩) 16 16) (by simp [results, Try.results10, go_sem]) rfl ⟨G, rfl, hle, hR, hK⟩
end B8
end Go.Proofs.Ytcckdceijgdgoaa
