import Derived.Test.YtkjcnnjgaififaaDoorProg
import Derived.Test.YtkjcnnjgaififaaDoorKA
import Derived.Test.YtkjcnnjgaififaaDoorKA2
import Derived.Test.YtkjcnnjgaififaaDoorKA5
import Derived.Test.YtkjcnnjgaififaaDoorKXM
import Derived.Test.YtkjcnnjgaififaaDoorKA4
import Derived.WalkKit
import Derived.ProofKit
import Derived.RowKit3
import Derived.WalkSpells
import Derived.StillTactics
import Derived.Deep.QuietTactic
import Derived.BigQuiet
import Derived.Below
import Derived.Deep.OwnRows
import Derived.Deep.RegionHeld
import Derived.Laws.Closers25b
namespace Go.Proofs.YtkjcnnjgaififaaDoor
open Go.RowKit
set_option maxRecDepth 20000 in
set_option maxHeartbeats 1000000 in
theorem same_ (p q : Option Addr) (c d : Nat) (xs ys : List Int) (w : World) (hx : Arr w p xs) (hy : Arr w q ys) (lx : xs.length ≤ 1099511627776) :
    Calls Tryd.prog 12 #[.slice p xs.length c, .slice q ys.length d] w fun e w' => e = .returned (.bool (decide (xs = ys))) ∧ Kp w w' := by
  by_cases hl : xs.length = ys.length
  · have d1 : ((xs.length : Int) != (ys.length : Int)) = false := by simp; omega
    obtain ⟨N, hN⟩ : ∃ N, N = xs.length := ⟨_, rfl⟩
    obtain ⟨M, hM⟩ : ∃ M, M = ys.length := ⟨_, rfl⟩
    have HX : Hid (Arr w p xs) := hx
    have HY : Hid (Arr w q ys) := hy
    have HN : Hid (N = xs.length ∧ M = ys.length ∧ N = M ∧ N ≤ 1099511627776) := ⟨hN, hM, by omega, by omega⟩
    rw [← hN, ← hM] at d1 ⊢
    clear hx hy lx hl hN hM
    go_enter Tryd.func12, Tryd.ntmps12
    go_wp2
    go_loopw [5] (fun i wr => ∃ k : Nat, k ≤ N ∧ i = .int .i64 k ∧ Kp w wr ∧ xs.take k = ys.take k) (fun i _ => N - (intOf i).toNat)
    case atStart => exact ⟨0, Nat.zero_le _, rfl, Kp.refl _, by simp⟩
    case round =>
      obtain ⟨k, hk, rfl, hg, ht⟩ := hrel
      obtain ⟨hN, hM, hNM, hB⟩ := HN.out
      by_cases ck : k < N
      · obtain ⟨b, off, rfl, hc⟩ := HX.out.at (k := k) (by omega)
        obtain ⟨b', off', rfl, hc'⟩ := HY.out.at (k := k) (by omega)
        have e1 := kkeep hg (hc k (by omega))
        have e2 := kkeep hg (hc' k (by omega))
        have hm : k < M := by omega
        have hst := take_eq_step (xs := xs) (ys := ys) (k := k) (by omega) (by omega) ht
        have hne : xs.getD k 0 ≠ ys.getD k 0 → xs ≠ ys := fun h hh => h (by rw [hh])
        obtain ⟨X, hX⟩ : ∃ X, X = xs.getD k 0 := ⟨_, rfl⟩
        obtain ⟨Y, hY⟩ : ∃ Y, Y = ys.getD k 0 := ⟨_, rfl⟩
        rw [← hX] at e1 hst hne
        rw [← hY] at e2 hst hne
        clear hc hc' HX HY hN hM hNM hk ht hX hY
        by_cases cx : X = Y
        · have t1 : (X != Y) = false := by simp [cx]
          have ht2 := hst cx
          clear hst hne cx
          go_wp2
          refine wp_region_kp (by kernel_rfl) (by kernel_rfl) (fun ι _ G hG hall => ?_)
          have c0 : ∀ n, (G n).cell? ⟨b, off + k, none⟩ = some (.int .u32 X) := fun n => kkeep (hG n) e1
          have c1 : ∀ n, (G n).cell? ⟨b', off' + k, none⟩ = some (.int .u32 Y) := fun n => kkeep (hG n) e2
          repeat (go_big_quiet_step (fail))
          refine wpQuiet_nil ?_
          rintro _ ⟨nq, rfl⟩
          have gq := hG nq
          clear c0 c1 hall
          go_wp2
          refine ⟨⟨k + 1, by omega, by go_num, Kp.trans hg gq, ht2⟩, by simp [intOf]; omega⟩
        · have t1 : (X != Y) = true := by simp [cx]
          have hd := hne cx
          have hd2 : decide (xs = ys) = false := by simp [hd]
          clear hst hne cx hd
          go_wp2
          refine wp_region_kp (by kernel_rfl) (by kernel_rfl) (fun ι _ G hG hall => ?_)
          have c0 : ∀ n, (G n).cell? ⟨b, off + k, none⟩ = some (.int .u32 X) := fun n => kkeep (hG n) e1
          have c1 : ∀ n, (G n).cell? ⟨b', off' + k, none⟩ = some (.int .u32 Y) := fun n => kkeep (hG n) e2
          repeat (go_big_quiet_step (fail))
          refine wpQuiet_nil ?_
          rintro _ ⟨nq, rfl⟩
          have gq := hG nq
          clear c0 c1 hall
          go_wp2
          exact bodyPost_ret (v := .bool false) (by simp [results, Tryd.results12, go_sem] <;> simp only [*]) rfl ⟨by first | rfl | rw [hd2], Kp.trans hg gq⟩
      · have hkN : k = N := by omega
        have hxy : xs = ys := by
          rw [hkN, hN, List.take_length] at ht
          rw [← hN, hNM, hM, List.take_length] at ht
          exact ht
        have hd2 : decide (xs = ys) = true := by simp [hxy]
        have hk2 : ¬ ((k : Int) < (N : Int)) := by omega
        clear hxy ht hN hM hNM
        go_wp2
        exact bodyPost_ret (v := .bool true) (by simp [results, Tryd.results12, go_sem] <;> simp only [*]) rfl ⟨by first | rfl | rw [hd2], hg⟩
  · have d1 : ((xs.length : Int) != (ys.length : Int)) = true := by simp; omega
    have hd2 : decide (xs = ys) = false := by
      have : xs ≠ ys := fun h => hl (by rw [h])
      simp [this]
    obtain ⟨N, hN⟩ : ∃ N, N = xs.length := ⟨_, rfl⟩
    obtain ⟨M, hM⟩ : ∃ M, M = ys.length := ⟨_, rfl⟩
    rw [← hN, ← hM] at d1 ⊢
    clear hx hy lx hl hN hM
    go_enter Tryd.func12, Tryd.ntmps12
    go_wp2
    exact bodyPost_ret (v := .bool false) (by simp [results, Tryd.results12, go_sem] <;> simp only [*]) rfl ⟨by first | rfl | rw [hd2], Kp.refl _⟩
set_option maxRecDepth 20000 in
set_option maxHeartbeats 1000000 in
theorem copied_ (p : Option Addr) (c : Nat) (xs : List Int) (w : World) (hx : Arr w p xs) (lx : xs.length ≤ 1099511627776) :
    Calls Tryd.prog 25 #[.slice p xs.length c] w fun e w' => ∃ g, e = .returned (.slice (some ⟨g, 0, none⟩) xs.length xs.length) ∧ w.heap.size ≤ g ∧ Rw w' g xs.length xs ∧ Kp w w' := by
  obtain ⟨N, hN⟩ : ∃ N, N = xs.length := ⟨_, rfl⟩
  rw [← hN] at lx ⊢
  have hmk := mk32 N lx
  have HX : Hid (Arr w p xs) := hx
  have HN : Hid (N = xs.length) := hN
  have h0 : (w.alloc (.cells (madeCells #[.int .u32 0] N) 25)).rowIs w.heap.size 25 N (fun j => .int .u32 (if j < 0 then xs.getD j 0 else 0)) := (World.rowIs_made w (.int .u32 0) N 25).congr (fun j _ => by simp)
  have hg0 : Kp w (w.alloc (.cells (madeCells #[.int .u32 0] N) 25)) := (Kp.refl w).alloc _
  obtain ⟨g, hg⟩ : ∃ g, g = w.heap.size := ⟨_, rfl⟩
  rw [← hg] at h0
  have HG : Hid (g = w.heap.size) := hg
  clear hN hx
  go_enter Tryd.func25, Tryd.ntmps25
  go_wp2
  rw [← hg]
  clear hg
  go_loopw [4] (fun i wr => ∃ k : Nat, k ≤ N ∧ i = .int .i64 k ∧ Kp w wr ∧ wr.rowIs g 25 N (fun j => .int .u32 (if j < k then xs.getD j 0 else 0))) (fun i _ => N - (intOf i).toNat)
  case atStart => exact ⟨0, Nat.zero_le _, rfl, hg0, h0⟩
  case round =>
    obtain ⟨k, hk, rfl, hgr, hrow⟩ := hrel
    clear h0 hg0 hmk
    have hN := HN.out
    by_cases ck : k < N
    · obtain ⟨b, off, rfl, hc⟩ := HX.out.at (k := k) (by omega)
      have e1 := kkeep hgr (hc k (by omega))
      have e2 := hrow.cell ck
      have e3 := hrow.frozen k
      have hst := set_step hrow
      have hgs : Kp w (wr.setCell ⟨g, k, none⟩ (.int .u32 (xs.getD k 0))) := hgr.setCell (by rw [HG.out]; exact Nat.le_refl _) _
      obtain ⟨X, hX⟩ : ∃ X, X = xs.getD k 0 := ⟨_, rfl⟩
      rw [← hX] at e1 hst hgs
      clear hc HX HN HG hN hk hX hrow hgr
      go_wp2
      exact ⟨⟨k + 1, by omega, by go_num, hgs, hst⟩, by simp [intOf]; omega⟩
    · have hkN : k = N := by omega
      subst hkN
      have hrow2 : Rw wr g k xs := hrow.congr (fun j hj => by rw [if_pos hj])
      have hle : w.heap.size ≤ g := by rw [HG.out]; exact Nat.le_refl _
      clear hrow hN HN HX HG ck hk
      go_wp2
      exact bodyPost_ret (v := .slice (some ⟨g, 0, none⟩) k k) (by simp [results, Tryd.results25, go_sem] <;> simp only [*]) rfl ⟨g, rfl, hle, hrow2, hgr⟩
set_option maxRecDepth 20000 in
set_option maxHeartbeats 1000000 in
theorem full_ (p : Option Addr) (c N : Nat) (m : Int) (w : World) (hx : Arr w p (List.replicate N m)) (lx : N ≤ 1099511627776) :
    Calls Tryd.prog 68 #[.slice p N c, .int .u32 m, .int .i64 (N : Int)] w fun e w' => e = .returned (.bool true) ∧ w' = w := by
  have HX : Hid (Arr w p (List.replicate N m)) := hx
  clear hx
  go_enter Tryd.func68, Tryd.ntmps68
  go_wp2
  go_loop [7] (fun i => ∃ k : Nat, k ≤ N ∧ i = .int .i64 k) (fun i => N - (intOf i).toNat)
  case atStart => exact ⟨0, Nat.zero_le _, rfl⟩
  case round =>
    obtain ⟨k, hk, rfl⟩ := hrel
    by_cases ck : k < N
    · obtain ⟨b, off, rfl, hc⟩ := HX.out.at (k := k) (by simpa using ck)
      have e1 := hc k (by simpa using ck)
      rw [rep_getD, if_pos ck] at e1
      have i1 : (k : Int) < (N : Int) := by omega
      clear HX hc
      go_wp2
      exact ⟨⟨k + 1, by omega, by go_num⟩, by simp [intOf]; omega⟩
    · have i1 : ¬ ((k : Int) < (N : Int)) := by omega
      clear HX
      go_wp2
      exact bodyPost_ret (v := .bool true) (by simp [results, Tryd.results68, go_sem] <;> simp only [*]) rfl ⟨rfl, rfl⟩
set_option maxRecDepth 20000 in
set_option maxHeartbeats 1000000 in
theorem place_ (g n b c : Nat) (us ts gs : List Int) (w : World) (hr : Rw w g n (us ++ gs)) (hl : us.length = ts.length) (hn : (us ++ gs).length = n) (ht : ∀ j, j < ts.length → w.cell? ⟨b, j, none⟩ = some (.int .u32 (ts.getD j 0))) (hb : b ≠ g) (lx : us.length ≤ 1099511627776) :
    Calls Tryd.prog 45 #[.slice (some ⟨g, 0, none⟩) us.length n, .slice (some ⟨b, 0, none⟩) ts.length c] w fun e w' => ∃ v, e = .returned v ∧ Rw w' g n (ts ++ gs) ∧ Kb g w w' := by
  obtain ⟨N, hN⟩ : ∃ N, N = us.length := ⟨_, rfl⟩
  rw [← hN] at lx
  rw [← hl, ← hN]
  have HT : Hid (∀ j, j < ts.length → w.cell? ⟨b, j, none⟩ = some (.int .u32 (ts.getD j 0))) := ht
  have HN : Hid (N = us.length ∧ us.length = ts.length ∧ (us ++ gs).length = n) := ⟨hN, hl, hn⟩
  have h0 : w.rowIs g 25 n (fun j => .int .u32 (if j < 0 then ts.getD j 0 else (us ++ gs).getD j 0)) := World.rowIs.congr hr (fun j _ => by rw [if_neg (by omega)])
  clear hN hl hn ht hr
  go_enter Tryd.func45, Tryd.ntmps45
  go_wp2
  go_loopw [4] (fun i wr => ∃ k : Nat, k ≤ N ∧ i = .int .i64 k ∧ Kb g w wr ∧ wr.rowIs g 25 n (fun j => .int .u32 (if j < k then ts.getD j 0 else (us ++ gs).getD j 0))) (fun i _ => N - (intOf i).toNat)
  case atStart => exact ⟨0, Nat.zero_le _, rfl, Kb.refl _ _, h0⟩
  case round =>
    clear h0
    obtain ⟨k, hk, rfl, hkb, hrow⟩ := hrel
    obtain ⟨hN, hl, hn⟩ := HN.out
    by_cases ck : k < N
    · have hlen : us.length + gs.length = n := by rw [← List.length_append]; exact hn
      have e1 := hkb.arr hb (HT.out k (by omega))
      have e2 := hrow.cell (i := k) (by omega)
      have e3 := hrow.frozen k
      have hst : (wr.setCell ⟨g, k, none⟩ (.int .u32 (ts.getD k 0))).rowIs g 25 n (fun j => .int .u32 (if j < k + 1 then ts.getD j 0 else (us ++ gs).getD j 0)) := by
        refine (hrow.set k (.int .u32 (ts.getD k 0))).congr (fun j _ => ?_)
        by_cases c1 : j = k
        · subst c1; rw [if_pos rfl, if_pos (by omega)]
        · rw [if_neg c1]
          by_cases c2 : j < k
          · rw [if_pos c2, if_pos (by omega)]
          · rw [if_neg c2, if_neg (by omega)]
      have hks := hkb.setCell k (.int .u32 (ts.getD k 0))
      obtain ⟨X, hX⟩ : ∃ X, X = ts.getD k 0 := ⟨_, rfl⟩
      rw [← hX] at e1 hst hks
      have e2' : ∃ v, wr.cell? ⟨g, k, none⟩ = some v := ⟨_, e2⟩
      obtain ⟨V, hV⟩ := e2'
      have i1 : (k : Int) < (N : Int) := by omega
      clear HT HN hN hl hn hX hrow hkb e2 hlen
      go_wp2
      exact ⟨⟨k + 1, by omega, by go_num, hks, hst⟩, by simp [intOf]; omega⟩
    · have hkN : k = N := by omega
      have hrow2 : Rw wr g n (ts ++ gs) := World.rowIs.congr hrow (fun j _ => by
        by_cases c1 : j < k
        · rw [if_pos c1]; simp [List.getD, List.getElem?_append, show j < ts.length from by omega]
        · rw [if_neg c1]
          simp [List.getD, List.getElem?_append, show ¬ j < ts.length from by omega, hl])
      have i1 : ¬ ((k : Int) < (N : Int)) := by omega
      clear hrow hN hl hn HN HT
      go_wp2
      exact bodyPost_end (v := .tuple #[]) (by kernel_rfl) rfl ⟨⟨_, rfl⟩, hrow2, hkb⟩
set_option maxRecDepth 20000 in
set_option maxHeartbeats 1000000 in
theorem roomy_ (p : Option Addr) (c : Nat) (xs : List Int) (w : World) (hx : Arr w p xs) (lx : xs.length ≤ 1099511627000) :
    Calls Tryd.prog 43 #[.slice p xs.length c] w fun e w' => ∃ g, e = .returned (.tuple #[.slice (some ⟨g, 0, none⟩) xs.length (xs.length + 80), .slice (some ⟨g, 0, none⟩) (xs.length + 80) (xs.length + 80)]) ∧ w.heap.size ≤ g ∧ Rw w' g (xs.length + 80) (xs ++ gds) ∧ Kp w w' := by
  obtain ⟨N, hN⟩ : ∃ N, N = xs.length := ⟨_, rfl⟩
  rw [← hN] at lx ⊢
  have hmk : ∀ w : World, (Instr.makeSlice 26 (.int .i64 ((N : Int) + 80)) (.int .i64 ((N : Int) + 80))).run Tryd.prog w = .ok (.slice (some ⟨w.heap.size, 0, none⟩) (N + 80) (N + 80)) (w.alloc (.cells (madeCells #[.int .u32 0] (N + 80)) 25)) := by
    have := mk32 (N + 80) (by omega)
    simpa using this
  have HX : Hid (Arr w p xs) := hx
  have HN : Hid (N = xs.length) := hN
  have h0 : (w.alloc (.cells (madeCells #[.int .u32 0] (N + 80)) 25)).rowIs w.heap.size 25 (N + 80) (fun j => .int .u32 (if j < 0 then (xs ++ gds).getD j 0 else 0)) := (World.rowIs_made w (.int .u32 0) (N + 80) 25).congr (fun j _ => by simp)
  have hg0 : Kp w (w.alloc (.cells (madeCells #[.int .u32 0] (N + 80)) 25)) := (Kp.refl w).alloc _
  obtain ⟨g, hg⟩ : ∃ g, g = w.heap.size := ⟨_, rfl⟩
  rw [← hg] at h0
  have HG : Hid (g = w.heap.size) := hg
  clear hN hx
  go_enter Tryd.func43, Tryd.ntmps43
  go_wp2
  rw [← hg]
  clear hg
  go_loopw [5] (fun i wr => ∃ k : Nat, k ≤ N + 80 ∧ i = .int .i64 k ∧ Kp w wr ∧ wr.rowIs g 25 (N + 80) (fun j => .int .u32 (if j < k then (xs ++ gds).getD j 0 else 0))) (fun i _ => N + 80 - (intOf i).toNat)
  case atStart => exact ⟨0, Nat.zero_le _, rfl, hg0, h0⟩
  case round =>
    obtain ⟨k, hk, rfl, hgr, hrow⟩ := hrel
    clear h0 hg0 hmk
    have hN := HN.out
    have e2 := hrow.cell (i := k)
    have e3 := hrow.frozen k
    have hle : w.heap.size ≤ g := by rw [HG.out]; exact Nat.le_refl _
    by_cases ck : k < N
    · obtain ⟨b, off, rfl, hc⟩ := HX.out.at (k := k) (by omega)
      have e1 := kkeep hgr (hc k (by omega))
      have hbg : b ≠ g := by have := cell_lt (hc k (by omega)); have := HG.out; omega
      have e2 := e2 (by omega)
      have e1' : (wr.setCell ⟨g, k, none⟩ (.int .u32 2882343476)).cell? ⟨b, off + k, none⟩ = some (.int .u32 (xs.getD k 0)) := (World.cell?_setCell_far _ _ _ _ (Ne.symm hbg)).trans e1
      have hrow' := hrow.set k (.int .u32 2882343476)
      have e4 := hrow'.cell (i := k) (by omega)
      have e5 := hrow'.frozen k
      have hst := (hrow'.set k (.int .u32 (xs.getD k 0)))
      have hst2 : ((wr.setCell ⟨g, k, none⟩ (.int .u32 2882343476)).setCell ⟨g, k, none⟩ (.int .u32 (xs.getD k 0))).rowIs g 25 (N + 80) (fun j => .int .u32 (if j < k + 1 then (xs ++ gds).getD j 0 else 0)) := hst.congr (fun j _ => by
        by_cases c1 : j = k
        · subst c1; rw [if_pos rfl, if_pos (by omega)]; simp [List.getD, List.getElem?_append, show j < xs.length from by omega]
        · rw [if_neg c1, if_neg c1]
          by_cases c2 : j < k
          · rw [if_pos c2, if_pos (by omega)]
          · rw [if_neg c2, if_neg (by omega)])
      have hgs : Kp w ((wr.setCell ⟨g, k, none⟩ (.int .u32 2882343476)).setCell ⟨g, k, none⟩ (.int .u32 (xs.getD k 0))) := (hgr.setCell hle _).setCell hle _
      obtain ⟨X, hX⟩ : ∃ X, X = xs.getD k 0 := ⟨_, rfl⟩
      rw [← hX] at e1' hst2 hgs
      have i1 : (k : Int) < (N : Int) := by omega
      have i2 : (k : Int) < (N : Int) + 80 := by omega
      clear hc HX HN HG hN hX hrow hgr e1 hrow' hst
      go_wp2
      exact ⟨⟨k + 1, by omega, by go_num, hgs, hst2⟩, by simp [intOf]; omega⟩
    · by_cases cm : k < N + 80
      · have e2 := e2 cm
        have hst : (wr.setCell ⟨g, k, none⟩ (.int .u32 2882343476)).rowIs g 25 (N + 80) (fun j => .int .u32 (if j < k + 1 then (xs ++ gds).getD j 0 else 0)) := (hrow.set k (.int .u32 2882343476)).congr (fun j _ => by
          by_cases c1 : j = k
          · subst c1
            rw [if_pos rfl, if_pos (by omega)]
            have := gds_getD (j - xs.length) (by omega)
            have e : (xs ++ gds).getD j 0 = gds.getD (j - xs.length) 0 := by simp [List.getD, List.getElem?_append, show ¬ j < xs.length from by omega]
            rw [e, this]
          · rw [if_neg c1]
            by_cases c2 : j < k
            · rw [if_pos c2, if_pos (by omega)]
            · rw [if_neg c2, if_neg (by omega)])
        have hgs : Kp w (wr.setCell ⟨g, k, none⟩ (.int .u32 2882343476)) := hgr.setCell hle _
        have i1 : ¬ ((k : Int) < (N : Int)) := by omega
        have i2 : (k : Int) < (N : Int) + 80 := by omega
        clear HX HN HG hN hrow hgr
        go_wp2
        exact ⟨⟨k + 1, by omega, by go_num, hgs, hst⟩, by simp [intOf]; omega⟩
      · have hkN : k = N + 80 := by omega
        have hrow2 : Rw wr g (N + 80) (xs ++ gds) := hrow.congr (fun j hj => by rw [if_pos (by omega)])
        have i2 : ¬ ((k : Int) < (N : Int) + 80) := by omega
        clear hrow hN HN HX HG e2 e3
        go_wp2
        exact bodyPost_ret (v := .tuple #[.slice (some ⟨g, 0, none⟩) N (N + 80), .slice (some ⟨g, 0, none⟩) (N + 80) (N + 80)]) (by simp [results, Tryd.results43, go_sem] <;> simp only [*]) rfl ⟨g, rfl, hle, hrow2, hgr⟩
set_option maxRecDepth 20000 in
set_option maxHeartbeats 1000000 in
theorem left_ (p : Option Addr) (c g : Nat) (us : List Int) (w : World) (hx : Arr w p us) (hr : Rw w g (us.length + 80) (us ++ gds)) (lx : us.length ≤ 1099511627000) :
    Calls Tryd.prog 44 #[.slice p us.length c, .slice (some ⟨g, 0, none⟩) (us.length + 80) (us.length + 80)] w fun e w' => e = .returned (.bool true) ∧ Kp w w' := by
  have hA : Arr w (some ⟨g, 0, none⟩) us := by
    have := hr.arr us.length (by omega) (by simp)
    rwa [List.take_left'] at this
    rfl
  have hsm := same_ p (some ⟨g, 0, none⟩) c (us.length + 80) us us w hx hA (by omega)
  rw [decide_eq_true rfl] at hsm
  obtain ⟨N, hN⟩ : ∃ N, N = us.length := ⟨_, rfl⟩
  rw [← hN] at lx hsm ⊢
  have HR : Hid (Rw w g (N + 80) (us ++ gds)) := by rw [hN]; exact hr
  have HN : Hid (N = us.length) := hN
  clear hN hx hr hA
  go_enter Tryd.func44, Tryd.ntmps44
  go_wp2
  go_loop [5] (fun i => ∃ k : Nat, N ≤ k ∧ k ≤ N + 80 ∧ i = .int .i64 k) (fun i => N + 80 - (intOf i).toNat)
  case atStart => exact ⟨N, Nat.le_refl _, by omega, rfl⟩
  case round =>
    obtain ⟨k, hk1, hk2, rfl⟩ := hrel
    have hN := HN.out
    by_cases ck : k < N + 80
    · have e1 := World.rowIs.cell HR.out ck
      have e : (us ++ gds).getD k 0 = 2882343476 := by
        have := gds_getD (k - us.length) (by omega)
        rw [← this]; simp [List.getD, List.getElem?_append, show ¬ k < us.length from by omega]
      rw [e] at e1
      have i1 : (k : Int) < (N : Int) + 80 := by omega
      clear HR HN hN e hsm
      go_wp2
      exact ⟨⟨k + 1, by omega, by omega, by go_num⟩, by simp [intOf]; omega⟩
    · have i1 : ¬ ((k : Int) < (N : Int) + 80) := by omega
      clear HR HN hN
      go_wp2_with (first | (go_at_call 12; refine hsm.mono ?_; rintro e w' ⟨rfl, hk⟩))
      exact bodyPost_ret (v := .bool true) (by simp [results, Tryd.results44, go_sem] <;> simp only [*]) rfl ⟨rfl, hk⟩

def x32 (x y : Int) : Int := bits BinOp.xor IntKind.u32 x y
theorem x32_bd (x y : Int) : 0 ≤ x32 x y ∧ x32 x y < 4294967296 := by
  have := bits_within BinOp.xor IntKind.u32 x y
  have m1 : IntKind.u32.min = 0 := by decide
  have m2 : IntKind.u32.max = 4294967295 := by decide
  unfold x32
  omega
def oth1 (xs : List Int) : List Int := xs.set 0 (x32 (xs.getD 0 0) 5)
def oth (xs : List Int) : List Int := (oth1 xs).set (xs.length / 2) (x32 ((oth1 xs).getD (xs.length / 2) 0) 2147483648)
theorem oth_len (xs : List Int) : (oth xs).length = xs.length := by simp [oth, oth1]
theorem oth_wd (xs : List Int) (h : Wd xs) : Wd (oth xs) := (h.set _ _ (x32_bd _ _)).set _ _ (x32_bd _ _)
set_option maxRecDepth 20000 in
set_option maxHeartbeats 1000000 in
theorem other_ (p : Option Addr) (c : Nat) (xs : List Int) (w : World) (hx : Arr w p xs) (lx : xs.length ≤ 1099511627776) :
    Calls Tryd.prog 42 #[.slice p xs.length c] w fun e w' => ∃ g, e = .returned (.slice (some ⟨g, 0, none⟩) xs.length xs.length) ∧ w.heap.size ≤ g ∧ Rw w' g xs.length (oth xs) ∧ Kp w w' := by
  have hco := copied_ p c xs w hx lx
  by_cases c0 : xs.length = 0
  · have hnil : xs = [] := List.length_eq_zero_iff.1 c0
    have e0 : oth xs = xs := by subst hnil; rfl
    rw [e0]
    rw [c0] at hco ⊢
    clear hx lx e0 hnil c0
    go_enter Tryd.func42, Tryd.ntmps42
    go_wp2_with fail
    refine hco.mono ?_; rintro e w1 ⟨g, rfl, hg, hr, hk⟩
    go_wp2
    exact bodyPost_ret (v := .slice (some ⟨g, 0, none⟩) 0 0) (by simp [results, Tryd.results42, go_sem] <;> simp only [*]) rfl ⟨g, rfl, hg, hr, hk⟩
  · obtain ⟨N, hN⟩ : ∃ N, N = xs.length := ⟨_, rfl⟩
    rw [← hN] at hco lx c0 ⊢
    have HN : Hid (N = xs.length) := hN
    clear hx hN
    go_enter Tryd.func42, Tryd.ntmps42
    go_wp2_with fail
    refine hco.mono ?_; rintro e w1 ⟨g, rfl, hg, hr, hk⟩
    have hN := HN.out
    have e1 := World.rowIs.cell hr (i := 0) (by omega)
    have e2 := World.rowIs.frozen hr 0
    have hr1 : Rw (w1.setCell ⟨g, 0, none⟩ (.int .u32 (x32 (xs.getD 0 0) 5))) g N (oth1 xs) := hr.set 0 _ (by omega)
    have e3 := World.rowIs.cell hr1 (i := N / 2) (by omega)
    have e4 := World.rowIs.frozen hr1 (N / 2)
    have hr2 : Rw ((w1.setCell ⟨g, 0, none⟩ (.int .u32 (x32 (xs.getD 0 0) 5))).setCell ⟨g, N / 2, none⟩ (.int .u32 (x32 ((oth1 xs).getD (N / 2) 0) 2147483648))) g N (oth xs) := by
      have := hr1.set (N / 2) (x32 ((oth1 xs).getD (N / 2) 0) 2147483648) (by simp [oth1]; omega)
      rw [hN] at this ⊢
      exact this
    have hk2 : Kp w ((w1.setCell ⟨g, 0, none⟩ (.int .u32 (x32 (xs.getD 0 0) 5))).setCell ⟨g, N / 2, none⟩ (.int .u32 (x32 ((oth1 xs).getD (N / 2) 0) 2147483648))) := (hk.setCell hg _).setCell hg _
    obtain ⟨X, hX⟩ : ∃ X, X = xs.getD 0 0 := ⟨_, rfl⟩
    obtain ⟨Y, hY⟩ : ∃ Y, Y = (oth1 xs).getD (N / 2) 0 := ⟨_, rfl⟩
    rw [← hX] at e1 e3 e4 hr2 hk2
    rw [← hY] at e3 hr2 hk2
    have f1 : bits BinOp.xor IntKind.u32 X 5 = x32 X 5 := rfl
    have f2 : bits BinOp.xor IntKind.u32 Y 2147483648 = x32 Y 2147483648 := rfl
    have f3 : ((N : Int)).tdiv 2 = ((N / 2 : Nat) : Int) := by rw [Int.tdiv_eq_ediv_of_nonneg (by omega)]; omega
    have f4 : (0 : Int) < (N : Int) := by omega
    have f5 : ((N / 2 : Nat) : Int) < (N : Int) := by omega
    obtain ⟨H, hH⟩ : ∃ H, H = N / 2 := ⟨_, rfl⟩
    rw [← hH] at e3 e4 hr2 hk2 f3 f5
    clear hco hr hk hr1 hX hY hN HN hH
    go_wp2
    exact bodyPost_ret (v := .slice (some ⟨g, 0, none⟩) N N) (by simp [results, Tryd.results42, go_sem] <;> simp only [*]) rfl ⟨g, rfl, hg, hr2, hk2⟩
set_option maxRecDepth 20000 in
set_option maxHeartbeats 1000000 in
theorem alike_ (p1 p2 q1 q2 : Option Addr) (c1 c2 d1 d2 : Nat) (ls ms : List Int) (W Z E : Int) (B : Bool) (w : World) (h1 : Arr w p1 ls) (h2 : Arr w p2 ls) (g1 : Arr w q1 ms) (g2 : Arr w q2 ms) (ll : ls.length ≤ 1099511627776) (lm : ms.length ≤ 1099511627776) :
    Calls Tryd.prog 29 #[.agg #[.slice p1 ls.length c1, .slice q1 ms.length d1, .int .u64 W, .int .i64 Z, .bool B, .int .i64 E], .agg #[.slice p2 ls.length c2, .slice q2 ms.length d2, .int .u64 W, .int .i64 Z, .bool B, .int .i64 E]] w fun e w' => e = .returned (.bool true) ∧ Kp w w' := by
  have s1 : ∀ w', Kp w w' → Calls Tryd.prog 12 #[.slice p1 ls.length c1, .slice p2 ls.length c2] w' fun e w'' => e = .returned (.bool true) ∧ Kp w' w'' := fun w' k => by
    have := same_ p1 p2 c1 c2 ls ls w' (h1.grown k) (h2.grown k) ll
    rw [decide_eq_true rfl] at this
    exact this
  have s2 : ∀ w', Kp w w' → Calls Tryd.prog 12 #[.slice q1 ms.length d1, .slice q2 ms.length d2] w' fun e w'' => e = .returned (.bool true) ∧ Kp w' w'' := fun w' k => by
    have := same_ q1 q2 d1 d2 ms ms w' (g1.grown k) (g2.grown k) lm
    rw [decide_eq_true rfl] at this
    exact this
  obtain ⟨L, hL⟩ : ∃ L, L = ls.length := ⟨_, rfl⟩
  obtain ⟨M, hM⟩ : ∃ M, M = ms.length := ⟨_, rfl⟩
  rw [← hL] at s1 ⊢
  rw [← hM] at s2 ⊢
  clear h1 h2 g1 g2 ll lm hL hM
  go_enter Tryd.func29, Tryd.ntmps29
  go_wp2_with fail
  refine (s1 _ ?_).mono ?_
  · exact (by repeat (with_reducible (first | assumption | exact Kp.refl _ | apply Kp.drew | apply Kp.alloc | apply Kp.drewN | (refine Kp.trans ?_ (by assumption)))))
  rintro e w3 ⟨rfl, h3⟩
  have k3 : Kp w w3 := (((Kp.refl w).alloc _).alloc _).trans h3
  have x0 := kkeep h3 (b := w.heap.size) (o := 0) (v := .slice p1 L c1) (by simp [go_sem])
  have x1 := kkeep h3 (b := w.heap.size) (o := 1) (v := .slice q1 M d1) (by simp [go_sem])
  have x2 := kkeep h3 (b := w.heap.size) (o := 2) (v := .int .u64 W) (by simp [go_sem])
  have x3 := kkeep h3 (b := w.heap.size) (o := 3) (v := .int .i64 Z) (by simp [go_sem])
  have x4 := kkeep h3 (b := w.heap.size) (o := 4) (v := .bool B) (by simp [go_sem])
  have x5 := kkeep h3 (b := w.heap.size) (o := 5) (v := .int .i64 E) (by simp [go_sem])
  have y0 := kkeep h3 (b := w.heap.size + 1) (o := 0) (v := .slice p2 L c2) (by simp [go_sem])
  have y1 := kkeep h3 (b := w.heap.size + 1) (o := 1) (v := .slice q2 M d2) (by simp [go_sem])
  have y2 := kkeep h3 (b := w.heap.size + 1) (o := 2) (v := .int .u64 W) (by simp [go_sem])
  have y3 := kkeep h3 (b := w.heap.size + 1) (o := 3) (v := .int .i64 Z) (by simp [go_sem])
  have y4 := kkeep h3 (b := w.heap.size + 1) (o := 4) (v := .bool B) (by simp [go_sem])
  have y5 := kkeep h3 (b := w.heap.size + 1) (o := 5) (v := .int .i64 E) (by simp [go_sem])
  go_wp2_with fail
  refine (s2 _ k3).mono ?_
  rintro e w4 ⟨rfl, h4⟩
  have k4 : Kp w w4 := k3.trans h4
  have x2' := kkeep h4 x2
  have x3' := kkeep h4 x3
  have x4' := kkeep h4 x4
  have x5' := kkeep h4 x5
  have y2' := kkeep h4 y2
  have y3' := kkeep h4 y3
  have y4' := kkeep h4 y4
  have y5' := kkeep h4 y5
  clear s1 s2 h3 h4 k3 x0 x1 y0 y1 x2 x3 x4 x5 y2 y3 y4 y5
  go_wp2
  exact bodyPost_ret (v := .bool true) (by simp [results, Tryd.results29, go_sem] <;> simp only [*]) rfl ⟨rfl, k4⟩
end Go.Proofs.YtkjcnnjgaififaaDoor
