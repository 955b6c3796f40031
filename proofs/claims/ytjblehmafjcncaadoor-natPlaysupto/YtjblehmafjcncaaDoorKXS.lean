import Derived.Test.YtjblehmafjcncaaDoorProg
import Derived.Test.YtjblehmafjcncaaDoorKXA0
import Derived.WalkKit
import Derived.ProofKit
import Derived.RowKit3
import Derived.WalkSpells
import Derived.StillTactics
import Derived.Deep.QuietTactic
import Derived.BigQuiet
import Derived.Below
import Derived.Deep.OwnRows
namespace Go.Proofs.YtjblehmafjcncaaDoor
open Go.RowKit
set_option maxRecDepth 20000 in
set_option maxHeartbeats 1000000 in
theorem same_ (p q : Option Addr) (c d : Nat) (xs ys : List Int) (w : World) (hx : Arr w p xs) (hy : Arr w q ys) (lx : xs.length ≤ 1099511627776) :
    Calls Tryd.prog 10 #[.slice p xs.length c, .slice q ys.length d] w fun e w' => e = .returned (.bool (decide (xs = ys))) ∧ Kp w w' := by
  by_cases hl : xs.length = ys.length
  · have d1 : ((xs.length : Int) != (ys.length : Int)) = false := by simp; omega
    obtain ⟨N, hN⟩ : ∃ N, N = xs.length := ⟨_, rfl⟩
    obtain ⟨M, hM⟩ : ∃ M, M = ys.length := ⟨_, rfl⟩
    have HX : Hid (Arr w p xs) := hx
    have HY : Hid (Arr w q ys) := hy
    have HN : Hid (N = xs.length ∧ M = ys.length ∧ N = M ∧ N ≤ 1099511627776) := ⟨hN, hM, by omega, by omega⟩
    rw [← hN, ← hM] at d1 ⊢
    clear hx hy lx hl hN hM
    go_enter Tryd.func10, Tryd.ntmps10
    go_wp2
    go_loopw [5] (fun i wr => ∃ k : Nat, k ≤ N ∧ i = .int .i64 k ∧ Kp w wr ∧ xs.take k = ys.take k) (fun i _ => N - (intOf i).toNat)
    case atStart => exact ⟨0, Nat.zero_le _, rfl, Kp.refl _, by simp⟩
    case round =>
      obtain ⟨k, hk, rfl, hg, ht⟩ := hrel
      obtain ⟨hN, hM, hNM, hB⟩ := HN.out
      by_cases ck : k < N
      · obtain ⟨b, off, rfl, hc⟩ := HX.out.at (k := k) (by omega)
        obtain ⟨b', off', rfl, hc'⟩ := HY.out.at (k := k) (by omega)
        have e1 := kkeep hg (hc k (by omega))
        have e2 := kkeep hg (hc' k (by omega))
        have hm : k < M := by omega
        have hst := take_eq_step (xs := xs) (ys := ys) (k := k) (by omega) (by omega) ht
        have hne : xs.getD k 0 ≠ ys.getD k 0 → xs ≠ ys := fun h hh => h (by rw [hh])
        obtain ⟨X, hX⟩ : ∃ X, X = xs.getD k 0 := ⟨_, rfl⟩
        obtain ⟨Y, hY⟩ : ∃ Y, Y = ys.getD k 0 := ⟨_, rfl⟩
        rw [← hX] at e1 hst hne
        rw [← hY] at e2 hst hne
        clear hc hc' HX HY hN hM hNM hk ht hX hY
        by_cases cx : X = Y
        · have t1 : (X != Y) = false := by simp [cx]
          have ht2 := hst cx
          clear hst hne cx
          go_wp2
          refine wp_region_kp (by kernel_rfl) (by kernel_rfl) (fun ι _ G hG hall => ?_)
          have c0 : ∀ n, (G n).cell? ⟨b, off + k, none⟩ = some (.int .u32 X) := fun n => kkeep (hG n) e1
          have c1 : ∀ n, (G n).cell? ⟨b', off' + k, none⟩ = some (.int .u32 Y) := fun n => kkeep (hG n) e2
          repeat (go_big_quiet_step (fail))
          refine wpQuiet_nil ?_
          rintro _ ⟨nq, rfl⟩
          have gq := hG nq
          clear c0 c1 hall
          go_wp2
          refine ⟨⟨k + 1, by omega, by go_num, Kp.trans hg gq, ht2⟩, by simp [intOf]; omega⟩
        · have t1 : (X != Y) = true := by simp [cx]
          have hd := hne cx
          have hd2 : decide (xs = ys) = false := by simp [hd]
          clear hst hne cx hd
          go_wp2
          refine wp_region_kp (by kernel_rfl) (by kernel_rfl) (fun ι _ G hG hall => ?_)
          have c0 : ∀ n, (G n).cell? ⟨b, off + k, none⟩ = some (.int .u32 X) := fun n => kkeep (hG n) e1
          have c1 : ∀ n, (G n).cell? ⟨b', off' + k, none⟩ = some (.int .u32 Y) := fun n => kkeep (hG n) e2
          repeat (go_big_quiet_step (fail))
          refine wpQuiet_nil ?_
          rintro _ ⟨nq, rfl⟩
          have gq := hG nq
          clear c0 c1 hall
          go_wp2
          exact bodyPost_ret (v := .bool false) (by simp [results, Tryd.results10, go_sem] <;> simp only [*]) rfl ⟨by first | rfl | rw [hd2], Kp.trans hg gq⟩
      · have hkN : k = N := by omega
        have hxy : xs = ys := by
          rw [hkN, hN, List.take_length] at ht
          rw [← hN, hNM, hM, List.take_length] at ht
          exact ht
        have hd2 : decide (xs = ys) = true := by simp [hxy]
        have hk2 : ¬ ((k : Int) < (N : Int)) := by omega
        clear hxy ht hN hM hNM
        go_wp2
        exact bodyPost_ret (v := .bool true) (by simp [results, Tryd.results10, go_sem] <;> simp only [*]) rfl ⟨by first | rfl | rw [hd2], hg⟩
  · have d1 : ((xs.length : Int) != (ys.length : Int)) = true := by simp; omega
    have hd2 : decide (xs = ys) = false := by
      have : xs ≠ ys := fun h => hl (by rw [h])
      simp [this]
    obtain ⟨N, hN⟩ : ∃ N, N = xs.length := ⟨_, rfl⟩
    obtain ⟨M, hM⟩ : ∃ M, M = ys.length := ⟨_, rfl⟩
    rw [← hN, ← hM] at d1 ⊢
    clear hx hy lx hl hN hM
    go_enter Tryd.func10, Tryd.ntmps10
    go_wp2
    exact bodyPost_ret (v := .bool false) (by simp [results, Tryd.results10, go_sem] <;> simp only [*]) rfl ⟨by first | rfl | rw [hd2], Kp.refl _⟩
set_option maxRecDepth 20000 in
set_option maxHeartbeats 1000000 in
theorem copied_ (p : Option Addr) (c : Nat) (xs : List Int) (w : World) (hx : Arr w p xs) (lx : xs.length ≤ 1099511627776) :
    Calls Tryd.prog 5 #[.slice p xs.length c] w fun e w' => ∃ g, e = .returned (.slice (some ⟨g, 0, none⟩) xs.length xs.length) ∧ w.heap.size ≤ g ∧ Rw w' g xs.length xs ∧ Kp w w' := by
  obtain ⟨N, hN⟩ : ∃ N, N = xs.length := ⟨_, rfl⟩
  rw [← hN] at lx ⊢
  have hmk := mk32 N lx
  have HX : Hid (Arr w p xs) := hx
  have HN : Hid (N = xs.length) := hN
  have h0 : (w.alloc (.cells (madeCells #[.int .u32 0] N) 38)).rowIs w.heap.size 38 N (fun j => .int .u32 (if j < 0 then xs.getD j 0 else 0)) := (World.rowIs_made w (.int .u32 0) N 38).congr (fun j _ => by simp)
  have hg0 : Kp w (w.alloc (.cells (madeCells #[.int .u32 0] N) 38)) := (Kp.refl w).alloc _
  obtain ⟨g, hg⟩ : ∃ g, g = w.heap.size := ⟨_, rfl⟩
  rw [← hg] at h0
  have HG : Hid (g = w.heap.size) := hg
  clear hN hx
  go_enter Tryd.func5, Tryd.ntmps5
  go_wp2
  rw [← hg]
  clear hg
  go_loopw [4] (fun i wr => ∃ k : Nat, k ≤ N ∧ i = .int .i64 k ∧ Kp w wr ∧ wr.rowIs g 38 N (fun j => .int .u32 (if j < k then xs.getD j 0 else 0))) (fun i _ => N - (intOf i).toNat)
  case atStart => exact ⟨0, Nat.zero_le _, rfl, hg0, h0⟩
  case round =>
    obtain ⟨k, hk, rfl, hgr, hrow⟩ := hrel
    clear h0 hg0 hmk
    have hN := HN.out
    by_cases ck : k < N
    · obtain ⟨b, off, rfl, hc⟩ := HX.out.at (k := k) (by omega)
      have e1 := kkeep hgr (hc k (by omega))
      have e2 := hrow.cell ck
      have e3 := hrow.frozen k
      have hst := set_step hrow
      have hgs : Kp w (wr.setCell ⟨g, k, none⟩ (.int .u32 (xs.getD k 0))) := hgr.setCell (by rw [HG.out]; exact Nat.le_refl _) _
      obtain ⟨X, hX⟩ : ∃ X, X = xs.getD k 0 := ⟨_, rfl⟩
      rw [← hX] at e1 hst hgs
      clear hc HX HN HG hN hk hX hrow hgr
      go_wp2
      exact ⟨⟨k + 1, by omega, by go_num, hgs, hst⟩, by simp [intOf]; omega⟩
    · have hkN : k = N := by omega
      subst hkN
      have hrow2 : Rw wr g k xs := hrow.congr (fun j hj => by rw [if_pos hj])
      have hle : w.heap.size ≤ g := by rw [HG.out]; exact Nat.le_refl _
      clear hrow hN HN HX HG ck hk
      go_wp2
      exact bodyPost_ret (v := .slice (some ⟨g, 0, none⟩) k k) (by simp [results, Tryd.results5, go_sem] <;> simp only [*]) rfl ⟨g, rfl, hle, hrow2, hgr⟩
set_option maxRecDepth 20000 in
set_option maxHeartbeats 1000000 in
theorem alike_ (p1 p2 q1 q2 : Option Addr) (c1 c2 d1 d2 : Nat) (ls ms : List Int) (W Z E : Int) (B : Bool) (w : World) (h1 : Arr w p1 ls) (h2 : Arr w p2 ls) (g1 : Arr w q1 ms) (g2 : Arr w q2 ms) (ll : ls.length ≤ 1099511627776) (lm : ms.length ≤ 1099511627776) :
    Calls Tryd.prog 9 #[.agg #[.slice p1 ls.length c1, .slice q1 ms.length d1, .int .u64 W, .int .i64 Z, .bool B, .int .i64 E], .agg #[.slice p2 ls.length c2, .slice q2 ms.length d2, .int .u64 W, .int .i64 Z, .bool B, .int .i64 E]] w fun e w' => e = .returned (.bool true) ∧ Kp w w' := by
  have s1 : ∀ w', Kp w w' → Calls Tryd.prog 10 #[.slice p1 ls.length c1, .slice p2 ls.length c2] w' fun e w'' => e = .returned (.bool true) ∧ Kp w' w'' := fun w' k => by
    have := same_ p1 p2 c1 c2 ls ls w' (h1.grown k) (h2.grown k) ll
    rw [decide_eq_true rfl] at this
    exact this
  have s2 : ∀ w', Kp w w' → Calls Tryd.prog 10 #[.slice q1 ms.length d1, .slice q2 ms.length d2] w' fun e w'' => e = .returned (.bool true) ∧ Kp w' w'' := fun w' k => by
    have := same_ q1 q2 d1 d2 ms ms w' (g1.grown k) (g2.grown k) lm
    rw [decide_eq_true rfl] at this
    exact this
  obtain ⟨L, hL⟩ : ∃ L, L = ls.length := ⟨_, rfl⟩
  obtain ⟨M, hM⟩ : ∃ M, M = ms.length := ⟨_, rfl⟩
  rw [← hL] at s1 ⊢
  rw [← hM] at s2 ⊢
  clear h1 h2 g1 g2 ll lm hL hM
  go_enter Tryd.func9, Tryd.ntmps9
  go_wp2_with fail
  refine (s1 _ ?_).mono ?_
  · exact (by repeat (with_reducible (first | assumption | exact Kp.refl _ | apply Kp.drew | apply Kp.alloc | apply Kp.drewN | (refine Kp.trans ?_ (by assumption)))))
  rintro e w3 ⟨rfl, h3⟩
  have k3 : Kp w w3 := (((Kp.refl w).alloc _).alloc _).trans h3
  have x0 := kkeep h3 (b := w.heap.size) (o := 0) (v := .slice p1 L c1) (by simp [go_sem])
  have x1 := kkeep h3 (b := w.heap.size) (o := 1) (v := .slice q1 M d1) (by simp [go_sem])
  have x2 := kkeep h3 (b := w.heap.size) (o := 2) (v := .int .u64 W) (by simp [go_sem])
  have x3 := kkeep h3 (b := w.heap.size) (o := 3) (v := .int .i64 Z) (by simp [go_sem])
  have x4 := kkeep h3 (b := w.heap.size) (o := 4) (v := .bool B) (by simp [go_sem])
  have x5 := kkeep h3 (b := w.heap.size) (o := 5) (v := .int .i64 E) (by simp [go_sem])
  have y0 := kkeep h3 (b := w.heap.size + 1) (o := 0) (v := .slice p2 L c2) (by simp [go_sem])
  have y1 := kkeep h3 (b := w.heap.size + 1) (o := 1) (v := .slice q2 M d2) (by simp [go_sem])
  have y2 := kkeep h3 (b := w.heap.size + 1) (o := 2) (v := .int .u64 W) (by simp [go_sem])
  have y3 := kkeep h3 (b := w.heap.size + 1) (o := 3) (v := .int .i64 Z) (by simp [go_sem])
  have y4 := kkeep h3 (b := w.heap.size + 1) (o := 4) (v := .bool B) (by simp [go_sem])
  have y5 := kkeep h3 (b := w.heap.size + 1) (o := 5) (v := .int .i64 E) (by simp [go_sem])
  go_wp2_with fail
  refine (s2 _ k3).mono ?_
  rintro e w4 ⟨rfl, h4⟩
  have k4 : Kp w w4 := k3.trans h4
  have x2' := kkeep h4 x2
  have x3' := kkeep h4 x3
  have x4' := kkeep h4 x4
  have x5' := kkeep h4 x5
  have y2' := kkeep h4 y2
  have y3' := kkeep h4 y3
  have y4' := kkeep h4 y4
  have y5' := kkeep h4 y5
  clear s1 s2 h3 h4 k3 x0 x1 y0 y1 x2 x3 x4 x5 y2 y3 y4 y5
  go_wp2
  exact bodyPost_ret (v := .bool true) (by simp [results, Tryd.results9, go_sem] <;> simp only [*]) rfl ⟨rfl, k4⟩
end Go.Proofs.YtjblehmafjcncaaDoor
