import Derived.Test.YtcckdceijgdgoaaKPXb
import Derived.Test.YtcckdceijgdgoaaKPXj
namespace Go.Proofs.Ytcckdceijgdgoaa
open Go.RowKit
open Go
namespace B8
theorem setCells_far {g b x : Nat} (hb : b ≠ g) : ∀ (vs : List Value) (o : Nat) (w : World), (w.setCells g o vs).cell? ⟨b, x, none⟩ = w.cell? ⟨b, x, none⟩
  | [], _, _ => rfl
  | _ :: vs, o, _ => (setCells_far hb vs (o + 1) _).trans (World.cell?_setCell_far _ _ _ _ (fun h => hb h.symm))
theorem copy8b (w : World) (g n o m c c' : Nat) (p : Option Addr) (xs : List Int) (f : Nat → Value) (hr : w.rowIs g 5 n f) (hx : Arr w p xs) (hl : xs.length = m) (ho : o + m ≤ n) :
    ∃ w2, (∀ ty, (Builtin.copy_ #[35, 35] ty #[.slice (some ⟨g, o, none⟩) m c', .slice p m c]).run Try.prog w = .ok (goInt m) w2) ∧
      w2.rowIs g 5 n (fun j => if o ≤ j ∧ j < o + m then .int .u8 (xs.getD (j - o) 0) else f j) ∧ (∀ W : World, W.heap.size ≤ g → Kp W w → Kp W w2) ∧ (∀ b x v, b ≠ g → w.cell? ⟨b, x, none⟩ = some v → w2.cell? ⟨b, x, none⟩ = some v) := by
  subst hl
  rcases hx with rfl | ⟨b, off, rfl, hc⟩
  · refine ⟨w, fun ty => run_copy_none w 35 35 ty 5 _ _ _ _ _ _ Try.underlying35 siz8 (by simp), hr.congr (fun j _ => by rw [if_neg (by simp)]), fun W _ h => h, fun _ _ _ _ h => h⟩
  · refine ⟨w.setCells g o (xs.map (Value.int .u8)), fun ty => ?_, ?_, fun W hW h => setCells_kp hW _ _ _ h, fun b x v hb h => (setCells_far hb _ _ _).trans h⟩
    · have := run_copy_cells (P := Try.prog) w 35 35 ty 5 g o xs.length c' ⟨b, off, none⟩ xs.length c (xs.map (Value.int .u8)) Try.underlying35 siz8 (by simp)
        (fun j v hv => by
          have hj : j < xs.length := by
            have := List.getElem?_eq_some_iff.1 hv
            simpa using this.1
          rw [addr_add, hc j hj]
          simpa [List.getD, hj] using hv)
        (fun j hj => by rw [hr.cell (by simp at hj; omega)]; rfl) (fun j _ => hr.frozen _)
        (fun v hv => by obtain ⟨x, _, rfl⟩ := List.mem_map.1 hv; rfl)
      simpa using this
    · refine World.rowIs.congr (setCells_row (xs.map (Value.int .u8)) o w f hr) (fun j _ => ?_)
      by_cases c : o ≤ j ∧ j < o + xs.length
      · rw [if_pos c, if_pos (by simpa using c)]; simp [List.getD, show j - o < xs.length from by omega]
      · rw [if_neg c, if_neg (by simpa using c)]
set_option maxRecDepth 20000 in
set_option maxHeartbeats 2000000 in
theorem putboxY_ (p : Option Addr) (c : Nat) (ps : List (Nat × Nat)) (w : World) (hx : AG FLV w p ps) (hq : Wq ps) (lx : ps.length ≤ 32) : Calls Try.prog 19 #[.slice p ps.length c] w fun e w' => ∃ G, e = .returned (.tuple #[.slice (some ⟨G, 0, none⟩) (1 + 16 * ps.length) (1 + 16 * ps.length), .int .i64 0]) ∧ w.heap.size ≤ G ∧ Rw w' G (1 + 16 * ps.length) (bb ps) ∧ Kp w w' := by
  obtain ⟨N, hN⟩ : ∃ N, N = ps.length := ⟨_, rfl⟩
  obtain ⟨M, hM⟩ : ∃ M, M = 1 + 16 * N := ⟨_, rfl⟩
  rw [← hN] at lx ⊢
  rw [← hM]
  have HX : Hid (AG FLV w p ps ∧ Wq ps) := ⟨hx, hq⟩
  have HN : Hid (N = ps.length ∧ M = 1 + 16 * N) := ⟨hN, hM⟩
  have hwN : IntKind.u8.wrap (N : Int) = (N : Int) := by rw [IntKind.wrap_u8]; omega
  have n2 : ¬ (32 : Int) < (N : Int) := by omega
  have hbl := boxlen_ N (by omega)
  rw [← hM] at hbl
  have hmk := mk8 M (by omega)
  have hM0 : 0 < M := by omega
  have hr0 : (w.alloc (.cells ((madeCells #[.int .u8 0] M).setIfInBounds 0 (.int .u8 (N : Int))) 5)).rowIs w.heap.size 5 M (fun j => .int .u8 (if j < 1 + 16 * 0 then (bb ps).getD j 0 else 0)) := by
    have h := World.rowIs_alloc w ((madeCells #[.int .u8 0] M).setIfInBounds 0 (.int .u8 (N : Int))) 5 (fun j => .int .u8 (if j < 1 + 16 * 0 then (bb ps).getD j 0 else 0)) (fun i hi => by
      rw [Array.size_setIfInBounds, size_madeCells] at hi
      by_cases c0 : i = 0
      · subst c0
        rw [Array.getElem?_setIfInBounds_self_of_lt (by rw [size_madeCells]; exact hi), if_pos (by omega), hN]; rfl
      · rw [Array.getElem?_setIfInBounds_ne (by omega), if_neg (by omega)]
        simp [madeCells, hi, Nat.mod_one])
    rw [Array.size_setIfInBounds, size_madeCells] at h
    exact h
  have e00 := (World.rowIs_made w (.int .u8 0) M 5).cell (i := 0) hM0
  have f00 := (World.rowIs_made w (.int .u8 0) M 5).frozen 0
  have hk0 : Kp w (w.alloc (.cells ((madeCells #[.int .u8 0] M).setIfInBounds 0 (.int .u8 (N : Int))) 5)) := (Kp.refl w).alloc _
  obtain ⟨G, hG⟩ : ∃ G, G = w.heap.size := ⟨_, rfl⟩
  rw [← hG] at hr0
  have HG : Hid (w.heap.size ≤ G) := by rw [hG]; exact Nat.le_refl _
  clear hN hM hx hq
  go_enter Try.func19, Try.ntmps19
  go_wp2_with (first | (go_at_call 43; refine (hbl _).mono ?_; rintro e w' ⟨rfl, hw9⟩; rw [hw9]; clear hw9))
  rw [← hG]
  generalize w.alloc (.cells ((madeCells #[.int .u8 0] M).setIfInBounds 0 (.int .u8 (N : Int))) 5) = w9 at hr0 hk0 ⊢
  clear hG e00 f00 hmk hbl
  go_loopw [21] (fun i wr => ∃ k : Nat, k ≤ N ∧ i = .int .i64 k ∧ wr.rowIs G 5 M (fun j => .int .u8 (if j < 1 + 16 * k then (bb ps).getD j 0 else 0)) ∧ Kp w wr) (fun i _ => N - (intOf i).toNat)
  case atStart => exact ⟨0, Nat.zero_le _, rfl, hr0, hk0⟩
  case round =>
    obtain ⟨k, hk, rfl, hrow, hkp⟩ := hrel
    clear hr0 hk0
    obtain ⟨hN, hM⟩ := HN.out
    by_cases ck : k < N
    · obtain ⟨b, off, rfl, hc2⟩ := HX.out.1.at (k := k) (by omega)
      have hqj := HX.out.2 k
      have e1 : wr.cell? ⟨b, off + k * 2, none⟩ = some (.float .f64 (ps.getD k (0, 0)).1) := kkeep hkp (hc2 k (by omega)).1
      have e2 : wr.cell? ⟨b, off + k * 2 + 1, none⟩ = some (.float .f64 (ps.getD k (0, 0)).2) := kkeep hkp (hc2 k (by omega)).2
      have hput := putn_ (ps.getD k (0, 0)).1 (ps.getD k (0, 0)).2 hqj.1 hqj.2
      have hF := fm_len ((ps.getD k (0, 0)).1, (ps.getD k (0, 0)).2)
      have HB : Hid (∀ t, t < 16 → (bb ps).getD (1 + 16 * k + t) 0 = (fm ((ps.getD k (0, 0)).1, (ps.getD k (0, 0)).2)).getD t 0) := fun t ht => bb_get ps k t (by omega) ht
      have hpart := part_ G 0 M M k (by omega) (by omega)
      rw [Nat.zero_add] at hpart
      generalize (ps.getD k (0, 0)).1 = Y1 at e1 hput hF HB
      generalize (ps.getD k (0, 0)).2 = Y2 at e2 hput hF HB
      generalize fm (Y1, Y2) = F9 at hput hF HB
      have hGw := HG.out
      have hkM : 1 + 16 * k + 16 ≤ M := by omega
      clear hc2 hqj HX hN hM HN HG
      go_upto_region 8 with fail
      have sx := (Fq.H2.new wr (.float .f64 Y1) (.float .f64 Y2) 31)
      have hkW := hkp.alloc (.cells #[.float .f64 Y1, .float .f64 Y2] 31)
      have hrowW := rowIs_grown hrow ((Kp.refl wr).alloc (.cells #[.float .f64 Y1, .float .f64 Y2] 31))
      have hBG : wr.heap.size ≠ G := by have := World.rowIs.lt hrow; omega
      generalize wr.alloc (.cells #[.float .f64 Y1, .float .f64 Y2] 31) = W at sx hkW hrowW ⊢
      generalize wr.heap.size = B at sx hBG ⊢
      obtain ⟨x0, x1, x2, x3⟩ := id sx
      clear hrow hkp e1 e2 sx
      go_region_held3 (fun w' => w'.cell? ⟨B, 0, none⟩ = some (.float .f64 Y1) ∧ w'.cell? ⟨B, 1, none⟩ = some (.float .f64 Y2)) (first | (refine ⟨kkeep (W := W) ?_ x0, kkeep (W := W) ?_ x1⟩ <;> ((repeat (first | with_reducible exact ka3 | with_reducible exact ka2 | with_reducible exact Kp.refl _ | with_reducible refine Kp.drew ?_)); done)) | exact ⟨z0, z1⟩) (first | (go_at_call 10; refine (hput _).mono ?_; rintro e v2 ⟨g, rfl, hg, hR, k2⟩; have ka2 : Kp W v2 := Kp.trans ?qa k2; (case qa => ((repeat (first | with_reducible exact ka3 | with_reducible exact ka2 | with_reducible exact Kp.refl _ | with_reducible refine Kp.drew ?_)); done)); obtain ⟨v3, hcp, hr3, hk3, hfar⟩ := copy8b v2 G M (1 + 16 * k) 16 16 16 (some ⟨g, 0, none⟩) F9 _ (rowIs_grown hrowW ka2) (arr_all hR hF) hF (by omega); have hK3 : Kp w v3 := hk3 w hGw (Kp.trans hkW ka2); have z0 : v3.cell? ⟨B, 0, none⟩ = some (.float .f64 Y1) := hfar _ _ _ hBG (kkeep ka2 x0); have z1 : v3.cell? ⟨B, 1, none⟩ = some (.float .f64 Y2) := hfar _ _ _ hBG (kkeep ka2 x1); clear hk3) | (go_at_call 44; refine (hpart _).mono ?_; rintro e w' ⟨rfl, rfl⟩))
      have hrF : v3.rowIs G 5 M (fun j => .int .u8 (if j < 1 + 16 * (k + 1) then (bb ps).getD j 0 else 0)) := World.rowIs.congr hr3 (fun j hj => by
        by_cases c1 : 1 + 16 * k ≤ j ∧ j < 1 + 16 * k + 16
        · rw [if_pos c1, if_pos (by omega)]
          have := HB.out (j - (1 + 16 * k)) (by omega)
          rw [show 1 + 16 * k + (j - (1 + 16 * k)) = j from by omega] at this
          rw [this]
        · rw [if_neg c1]
          by_cases c2 : j < 1 + 16 * k
          · rw [if_pos c2, if_pos (by omega)]
          · rw [if_neg c2, if_neg (by omega)])
      clear hr3 hcp hfar ka2 k2 hR hrowW HB hput hpart
      go_wp2
      exact ⟨⟨k + 1, by omega, by go_num, hrF, hK3⟩, by simp [intOf]; omega⟩
    · have hkN : k = N := by omega
      subst hkN
      have hR : Rw wr G M (bb ps) := World.rowIs.congr hrow (fun j hj => by rw [if_pos (by omega)])
      have hle := HG.out
      clear HX HN hN hM hrow HG
      go_wp2
      exact bodyPost_ret (v := .tuple #[.slice (some ⟨G, 0, none⟩) M M, .int .i64 0]) (by simp [results, Try.results19, go_sem] <;> simp only [*]) rfl ⟨G, rfl, hle, hR, hkp⟩
end B8
end Go.Proofs.Ytcckdceijgdgoaa
