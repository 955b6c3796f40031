import Derived.Test.YtipedmnipolmeaaKXRd
namespace Go.Proofs.Ytipedmnipolmeaa
open Go.RowKit
open Go
namespace X7
set_option linter.unusedVariables false
theorem rvalid9_ (a b : Nat) (ha : a < 18446744073709551616) (hb : b < 18446744073709551616) (w : World) : Calls Try.prog 25 #[.agg #[.int .u64 (a : Int), .int .u64 (b : Int)]] w fun e w' => e = .returned (.bool (Fq.vld a b)) ∧ Kp w w' := by
  obtain ⟨n, m, hm, rfl⟩ := Fq.exD a ha
  obtain ⟨n', m', hm', rfl⟩ := Fq.exD b hb
  exact Fq.rvalid_ n n' m m' hm hm' w
theorem allV_at {ps : List (Nat × Nat)} (h : allV ps = true) {k : Nat} (hk : k < ps.length) : Fq.vld (ps.getD k (0, 0)).1 (ps.getD k (0, 0)).2 = true := by
  cases c : Fq.vld (ps.getD k (0, 0)).1 (ps.getD k (0, 0)).2 with
  | true => rfl
  | false => rw [allV_false hk c] at h; cases h
set_option maxRecDepth 20000 in
set_option maxHeartbeats 2000000 in
theorem rcheckA_ (V : Int) (pc pk : Option Addr) (cc ck : Nat) (ps : List (Nat × Nat)) (L : List I5) (c1 : ¬ (0 ≤ V ∧ V ≤ 32)) (w : World) (hx : AG ULV w pc ps) (hy : AI w pk L) (hw : Wq ps) (lx : ps.length ≤ 1048576) (ly : L.length ≤ 1048576) :
    Calls Try.prog 8 #[.agg #[.int .i64 V, .slice pc ps.length cc, .slice pk L.length ck]] w fun e w' => e = .returned (.tuple #[.int .i64 ((0 : Int), (160 : Int)).1, .int .i64 ((0 : Int), (160 : Int)).2]) ∧ Kp w w' := by
  generalize ps.length = N
  generalize L.length = M
  have z0 : (w.alloc (.cells #[.int .i64 V, .slice pc N cc, .slice pk M ck] 25)).cell? ⟨w.heap.size, 0, none⟩ = some (.int .i64 V) := by simp [go_sem]
  have z1 : (w.alloc (.cells #[.int .i64 V, .slice pc N cc, .slice pk M ck] 25)).cell? ⟨w.heap.size, 1, none⟩ = some (.slice pc N cc) := by simp [go_sem]
  have z2 : (w.alloc (.cells #[.int .i64 V, .slice pc N cc, .slice pk M ck] 25)).cell? ⟨w.heap.size, 2, none⟩ = some (.slice pk M ck) := by simp [go_sem]
  have kw : Kp w (w.alloc (.cells #[.int .i64 V, .slice pc N cc, .slice pk M ck] 25)) := (Kp.refl w).alloc _
  clear lx ly hx hy hw
  by_cases t1 : V < 0
  · clear c1
    go_enter Try.func8, Try.ntmps8
    go_wp2
    exact bodyPost_ret (v := .tuple #[.int .i64 0, .int .i64 160]) (by simp [results, Try.results8, go_sem]) rfl ⟨rfl, kw⟩
  · have t2 : 32 < V := by omega
    clear c1
    go_enter Try.func8, Try.ntmps8
    go_wp2
    exact bodyPost_ret (v := .tuple #[.int .i64 0, .int .i64 160]) (by simp [results, Try.results8, go_sem]) rfl ⟨rfl, kw⟩
set_option maxRecDepth 20000 in
set_option maxHeartbeats 2000000 in
theorem rcheckC_ (V : Int) (pc pk : Option Addr) (cc ck : Nat) (ps : List (Nat × Nat)) (L : List I5) (c1 : 0 ≤ V ∧ V ≤ 32) (c3 : ¬ ps.length ≤ 256) (w : World) (hx : AG ULV w pc ps) (hy : AI w pk L) (hw : Wq ps) (lx : ps.length ≤ 1048576) (ly : L.length ≤ 1048576) :
    Calls Try.prog 8 #[.agg #[.int .i64 V, .slice pc ps.length cc, .slice pk L.length ck]] w fun e w' => e = .returned (.tuple #[.int .i64 ((0 : Int), (161 : Int)).1, .int .i64 ((0 : Int), (161 : Int)).2]) ∧ Kp w w' := by
  have t1 : ¬ (V < 0) := by omega
  have t2 : ¬ (32 < V) := by omega
  have t3 : (256 : Int) < (ps.length : Int) := by omega
  generalize ps.length = N at t3 ⊢
  generalize L.length = M
  have z0 : (w.alloc (.cells #[.int .i64 V, .slice pc N cc, .slice pk M ck] 25)).cell? ⟨w.heap.size, 0, none⟩ = some (.int .i64 V) := by simp [go_sem]
  have z1 : (w.alloc (.cells #[.int .i64 V, .slice pc N cc, .slice pk M ck] 25)).cell? ⟨w.heap.size, 1, none⟩ = some (.slice pc N cc) := by simp [go_sem]
  have z2 : (w.alloc (.cells #[.int .i64 V, .slice pc N cc, .slice pk M ck] 25)).cell? ⟨w.heap.size, 2, none⟩ = some (.slice pk M ck) := by simp [go_sem]
  have kw : Kp w (w.alloc (.cells #[.int .i64 V, .slice pc N cc, .slice pk M ck] 25)) := (Kp.refl w).alloc _
  clear c1 c3 lx ly hx hy hw
  go_enter Try.func8, Try.ntmps8
  go_wp2
  exact bodyPost_ret (v := .tuple #[.int .i64 0, .int .i64 161]) (by simp [results, Try.results8, go_sem]) rfl ⟨rfl, kw⟩
set_option maxRecDepth 20000 in
set_option maxHeartbeats 2000000 in
theorem rcheckB_ (V : Int) (pc pk : Option Addr) (cc ck : Nat) (ps : List (Nat × Nat)) (L : List I5) (c1 : 0 ≤ V ∧ V ≤ 32) (c3 : ps.length ≤ 256) (c4 : allV ps = false) (w : World) (hx : AG ULV w pc ps) (hy : AI w pk L) (hw : Wq ps) (lx : ps.length ≤ 1048576) (ly : L.length ≤ 1048576) :
    Calls Try.prog 8 #[.agg #[.int .i64 V, .slice pc ps.length cc, .slice pk L.length ck]] w fun e w' => e = .returned (.tuple #[.int .i64 ((0 : Int), (161 : Int)).1, .int .i64 ((0 : Int), (161 : Int)).2]) ∧ Kp w w' := by
  obtain ⟨N, hN⟩ : ∃ N, N = ps.length := ⟨_, rfl⟩
  obtain ⟨M, hM⟩ : ∃ M, M = L.length := ⟨_, rfl⟩
  have hN9 : N ≤ 256 := by omega
  have hN8 : ¬ ((256 : Int) < (N : Int)) := by omega
  have t1 : ¬ (V < 0) := by omega
  have t2 : ¬ (32 < V) := by omega
  rw [← hN, ← hM]
  have z0 : (w.alloc (.cells #[.int .i64 V, .slice pc N cc, .slice pk M ck] 25)).cell? ⟨w.heap.size, 0, none⟩ = some (.int .i64 V) := by simp [go_sem]
  have z1 : (w.alloc (.cells #[.int .i64 V, .slice pc N cc, .slice pk M ck] 25)).cell? ⟨w.heap.size, 1, none⟩ = some (.slice pc N cc) := by simp [go_sem]
  have z2 : (w.alloc (.cells #[.int .i64 V, .slice pc N cc, .slice pk M ck] 25)).cell? ⟨w.heap.size, 2, none⟩ = some (.slice pk M ck) := by simp [go_sem]
  have kw : Kp w (w.alloc (.cells #[.int .i64 V, .slice pc N cc, .slice pk M ck] 25)) := (Kp.refl w).alloc _
  have HX : Hid (AG ULV w pc ps ∧ Wq ps ∧ N = ps.length) := ⟨hx, hw, hN⟩
  have HAL : Hid (allV ps = false) := c4
  clear c1 c3 c4 lx ly hx hy hw hN hM
  go_enter Try.func8, Try.ntmps8
  go_upto_region 5 with fail
  generalize (w.alloc (.cells #[.int .i64 V, .slice pc N cc, .slice pk M ck] 25)) = W1 at z0 z1 z2 kw ⊢
  generalize w.heap.size = B0 at z0 z1 z2 ⊢
  go_wp2_with fail
  go_loopw [4] (fun s4 wr => ∃ j : Nat, s4 = .int .i64 j ∧ j ≤ N ∧ (∀ k, k < j → Fq.vld (ps.getD k (0, 0)).1 (ps.getD k (0, 0)).2 = true) ∧ wr.cell? ⟨B0, 0, none⟩ = some (.int .i64 V) ∧ wr.cell? ⟨B0, 1, none⟩ = some (.slice pc N cc) ∧ wr.cell? ⟨B0, 2, none⟩ = some (.slice pk M ck) ∧ Kp w wr) (fun s4 _ => N - (intOf s4).toNat)
  case atStart => exact ⟨0, rfl, Nat.zero_le _, fun k hk => absurd hk (Nat.not_lt_zero _), z0, z1, z2, kw⟩
  case round =>
    clear z0 z1 z2 kw
    obtain ⟨j, rfl, hj, hall9, z0, z1, z2, hkp⟩ := hrel
    obtain ⟨hx, hw, hN⟩ := HX.out
    by_cases cj : j < N
    · have HJ : Hid (j < N) := cj
      obtain ⟨b, off, rfl, hc2⟩ := hx.at (k := j) (by omega)
      have e1 : wr.cell? ⟨b, off + j * 2, none⟩ = some (.int .u64 (((ps.getD j (0, 0)).1 : Nat) : Int)) := kkeep hkp (hc2 j (by omega)).1
      have e2 : wr.cell? ⟨b, off + j * 2 + 1, none⟩ = some (.int .u64 (((ps.getD j (0, 0)).2 : Nat) : Int)) := kkeep hkp (hc2 j (by omega)).2
      have hv := rvalid9_ (ps.getD j (0, 0)).1 (ps.getD j (0, 0)).2 (hw j).1 (hw j).2
      have HA : Hid (∀ k, k < j → Fq.vld (ps.getD k (0, 0)).1 (ps.getD k (0, 0)).2 = true) := hall9
      obtain ⟨E, hE⟩ : ∃ E, E = Fq.vld (ps.getD j (0, 0)).1 (ps.getD j (0, 0)).2 := ⟨_, rfl⟩
      rw [← hE] at hv
      have HE : Hid (E = Fq.vld (ps.getD j (0, 0)).1 (ps.getD j (0, 0)).2) := hE
      clear hE hall9 hN hx hw hc2
      generalize (ps.getD j (0, 0)).1 = Y1 at e1 hv
      generalize (ps.getD j (0, 0)).2 = Y2 at e2 hv
      generalize (Y1 : Int) = Z1 at e1 hv
      generalize (Y2 : Int) = Z2 at e2 hv
      cases E
      · go_wp2_with (first | (go_at_call 25; refine (hv _).mono ?_; rintro e w1 ⟨rfl, g1⟩; have hk1 : Kp w w1 := Kp.trans hkp g1))
        exact bodyPost_ret (v := .tuple #[.int .i64 0, .int .i64 161]) (by simp [results, Try.results8, go_sem]) rfl ⟨rfl, hk1⟩
      · go_wp2_with (first | (go_at_call 25; refine (hv _).mono ?_; rintro e w1 ⟨rfl, g1⟩; have hk1 : Kp w w1 := Kp.trans hkp g1; replace z0 := kkeep (show Kp wr w1 from g1) z0; replace z1 := kkeep (show Kp wr w1 from g1) z1; replace z2 := kkeep (show Kp wr w1 from g1) z2))
        have hJ : j < N := HJ.out
        exact ⟨⟨j + 1, by go_num, hJ, fun k hk => by
          by_cases c : k = j
          · subst c; exact HE.out.symm
          · exact HA.out k (by omega), z0, z1, z2, hk1⟩, by simp [intOf]; omega⟩
    · exact absurd (allV_true (fun k hk => hall9 k (by omega))) (by rw [HAL.out]; decide)
set_option maxRecDepth 20000 in
set_option maxHeartbeats 2000000 in
theorem rcheckD_ (V : Int) (pc pk : Option Addr) (cc ck : Nat) (ps : List (Nat × Nat)) (L : List I5) (c1 : 0 ≤ V ∧ V ≤ 32) (c3 : ps.length ≤ 256) (c4 : allV ps = true) (c5 : ¬ (1 ≤ L.length ∧ L.length ≤ 1024)) (w : World) (hx : AG ULV w pc ps) (hy : AI w pk L) (hw : Wq ps) (lx : ps.length ≤ 1048576) (ly : L.length ≤ 1048576) :
    Calls Try.prog 8 #[.agg #[.int .i64 V, .slice pc ps.length cc, .slice pk L.length ck]] w fun e w' => e = .returned (.tuple #[.int .i64 ((0 : Int), (162 : Int)).1, .int .i64 ((0 : Int), (162 : Int)).2]) ∧ Kp w w' := by
  obtain ⟨N, hN⟩ : ∃ N, N = ps.length := ⟨_, rfl⟩
  obtain ⟨M, hM⟩ : ∃ M, M = L.length := ⟨_, rfl⟩
  have hN9 : N ≤ 256 := by omega
  have hN8 : ¬ ((256 : Int) < (N : Int)) := by omega
  have t1 : ¬ (V < 0) := by omega
  have t2 : ¬ (32 < V) := by omega
  rw [← hN, ← hM]
  have z0 : (w.alloc (.cells #[.int .i64 V, .slice pc N cc, .slice pk M ck] 25)).cell? ⟨w.heap.size, 0, none⟩ = some (.int .i64 V) := by simp [go_sem]
  have z1 : (w.alloc (.cells #[.int .i64 V, .slice pc N cc, .slice pk M ck] 25)).cell? ⟨w.heap.size, 1, none⟩ = some (.slice pc N cc) := by simp [go_sem]
  have z2 : (w.alloc (.cells #[.int .i64 V, .slice pc N cc, .slice pk M ck] 25)).cell? ⟨w.heap.size, 2, none⟩ = some (.slice pk M ck) := by simp [go_sem]
  have kw : Kp w (w.alloc (.cells #[.int .i64 V, .slice pc N cc, .slice pk M ck] 25)) := (Kp.refl w).alloc _
  have HX : Hid (AG ULV w pc ps ∧ Wq ps ∧ N = ps.length) := ⟨hx, hw, hN⟩
  have HAL : Hid (allV ps = true) := c4
  have hc5 : M = 0 ∨ (¬ (M = 0) ∧ (1024 : Int) < (M : Int)) := by omega
  have HC : Hid (M = 0 ∨ (¬ (M = 0) ∧ (1024 : Int) < (M : Int))) := hc5
  clear c1 c3 c4 c5 hc5 lx ly hx hy hw hN hM
  go_enter Try.func8, Try.ntmps8
  go_upto_region 5 with fail
  generalize (w.alloc (.cells #[.int .i64 V, .slice pc N cc, .slice pk M ck] 25)) = W1 at z0 z1 z2 kw ⊢
  generalize w.heap.size = B0 at z0 z1 z2 ⊢
  go_wp2_with fail
  go_loopw [4] (fun s4 wr => ∃ j : Nat, s4 = .int .i64 j ∧ j ≤ N ∧ (∀ k, k < j → Fq.vld (ps.getD k (0, 0)).1 (ps.getD k (0, 0)).2 = true) ∧ wr.cell? ⟨B0, 0, none⟩ = some (.int .i64 V) ∧ wr.cell? ⟨B0, 1, none⟩ = some (.slice pc N cc) ∧ wr.cell? ⟨B0, 2, none⟩ = some (.slice pk M ck) ∧ Kp w wr) (fun s4 _ => N - (intOf s4).toNat)
  case atStart => exact ⟨0, rfl, Nat.zero_le _, fun k hk => absurd hk (Nat.not_lt_zero _), z0, z1, z2, kw⟩
  case round =>
    clear z0 z1 z2 kw
    obtain ⟨j, rfl, hj, hall9, z0, z1, z2, hkp⟩ := hrel
    obtain ⟨hx, hw, hN⟩ := HX.out
    by_cases cj : j < N
    · have HJ : Hid (j < N) := cj
      obtain ⟨b, off, rfl, hc2⟩ := hx.at (k := j) (by omega)
      have e1 : wr.cell? ⟨b, off + j * 2, none⟩ = some (.int .u64 (((ps.getD j (0, 0)).1 : Nat) : Int)) := kkeep hkp (hc2 j (by omega)).1
      have e2 : wr.cell? ⟨b, off + j * 2 + 1, none⟩ = some (.int .u64 (((ps.getD j (0, 0)).2 : Nat) : Int)) := kkeep hkp (hc2 j (by omega)).2
      have hv := rvalid9_ (ps.getD j (0, 0)).1 (ps.getD j (0, 0)).2 (hw j).1 (hw j).2
      have HA : Hid (∀ k, k < j → Fq.vld (ps.getD k (0, 0)).1 (ps.getD k (0, 0)).2 = true) := hall9
      obtain ⟨E, hE⟩ : ∃ E, E = Fq.vld (ps.getD j (0, 0)).1 (ps.getD j (0, 0)).2 := ⟨_, rfl⟩
      rw [← hE] at hv
      have HE : Hid (E = Fq.vld (ps.getD j (0, 0)).1 (ps.getD j (0, 0)).2) := hE
      clear hE hall9 hN hx hw hc2
      generalize (ps.getD j (0, 0)).1 = Y1 at e1 hv
      generalize (ps.getD j (0, 0)).2 = Y2 at e2 hv
      generalize (Y1 : Int) = Z1 at e1 hv
      generalize (Y2 : Int) = Z2 at e2 hv
      cases E
      · exact absurd HE.out.symm (by have h := HAL.out; have hN := HX.out.2.2; have := allV_at h (k := j) (by omega); rw [this]; decide)
      · go_wp2_with (first | (go_at_call 25; refine (hv _).mono ?_; rintro e w1 ⟨rfl, g1⟩; have hk1 : Kp w w1 := Kp.trans hkp g1; replace z0 := kkeep (show Kp wr w1 from g1) z0; replace z1 := kkeep (show Kp wr w1 from g1) z1; replace z2 := kkeep (show Kp wr w1 from g1) z2))
        have hJ : j < N := HJ.out
        exact ⟨⟨j + 1, by go_num, hJ, fun k hk => by
          by_cases c : k = j
          · subst c; exact HE.out.symm
          · exact HA.out k (by omega), z0, z1, z2, hk1⟩, by simp [intOf]; omega⟩
    · clear hall9 hN hx hw
      rcases HC.out with rfl | ⟨d1, d2⟩
      · clear HC HX HAL
        go_wp2
        exact bodyPost_ret (v := .tuple #[.int .i64 0, .int .i64 162]) (by simp [results, Try.results8, go_sem]) rfl ⟨rfl, hkp⟩
      · have d3 : ((M : Int) == 0) = false := beq_eq_false_iff_ne.2 (by omega)
        clear HC HX HAL d1
        go_wp2
        exact bodyPost_ret (v := .tuple #[.int .i64 0, .int .i64 162]) (by simp [results, Try.results8, go_sem]) rfl ⟨rfl, hkp⟩
set_option maxRecDepth 20000 in
set_option maxHeartbeats 2000000 in
theorem rcheckL_ (V : Int) (pc pk : Option Addr) (cc ck : Nat) (ps : List (Nat × Nat)) (L : List I5) (c1 : 0 ≤ V ∧ V ≤ 32) (c3 : ps.length ≤ 256) (c4 : allV ps = true) (c5 : 1 ≤ L.length ∧ L.length ≤ 1024) (w : World) (hx : AG ULV w pc ps) (hy : AI w pk L) (hw : Wq ps) (lx : ps.length ≤ 1048576) (ly : L.length ≤ 1048576) :
    Calls Try.prog 8 #[.agg #[.int .i64 V, .slice pc ps.length cc, .slice pk L.length ck]] w fun e w' => e = .returned (.tuple #[.int .i64 (scan (lnAt V ps.length L) L.length).1, .int .i64 (scan (lnAt V ps.length L) L.length).2]) ∧ Kp w w' := by
  obtain ⟨N, hN⟩ : ∃ N, N = ps.length := ⟨_, rfl⟩
  obtain ⟨M, hM⟩ : ∃ M, M = L.length := ⟨_, rfl⟩
  have hN9 : N ≤ 256 := by omega
  have hN8 : ¬ ((256 : Int) < (N : Int)) := by omega
  have t1 : ¬ (V < 0) := by omega
  have t2 : ¬ (32 < V) := by omega
  rw [← hN, ← hM]
  obtain ⟨R, hR⟩ : ∃ R, R = scan (lnAt V N L) M := ⟨_, rfl⟩
  rw [← hR]
  have z0 : (w.alloc (.cells #[.int .i64 V, .slice pc N cc, .slice pk M ck] 25)).cell? ⟨w.heap.size, 0, none⟩ = some (.int .i64 V) := by simp [go_sem]
  have z1 : (w.alloc (.cells #[.int .i64 V, .slice pc N cc, .slice pk M ck] 25)).cell? ⟨w.heap.size, 1, none⟩ = some (.slice pc N cc) := by simp [go_sem]
  have z2 : (w.alloc (.cells #[.int .i64 V, .slice pc N cc, .slice pk M ck] 25)).cell? ⟨w.heap.size, 2, none⟩ = some (.slice pk M ck) := by simp [go_sem]
  have kw : Kp w (w.alloc (.cells #[.int .i64 V, .slice pc N cc, .slice pk M ck] 25)) := (Kp.refl w).alloc _
  have HX : Hid (AG ULV w pc ps ∧ Wq ps ∧ N = ps.length) := ⟨hx, hw, hN⟩
  have HAL : Hid (allV ps = true) := c4
  have HY : Hid (AI w pk L ∧ (0 ≤ V ∧ V ≤ 32) ∧ N ≤ 256 ∧ M = L.length ∧ M ≤ 1024 ∧ R = scan (lnAt V N L) M) := ⟨hy, c1, by omega, hM, by omega, hR⟩
  have m1 : ((M : Int) == 0) = false := beq_eq_false_iff_ne.2 (by omega)
  have m2 : ¬ ((1024 : Int) < (M : Int)) := by omega
  have hM9 : M ≤ 1024 := by omega
  clear c1 c3 c4 c5 lx ly hx hy hw hN hM hR
  go_enter Try.func8, Try.ntmps8
  go_upto_region 5 with fail
  generalize (w.alloc (.cells #[.int .i64 V, .slice pc N cc, .slice pk M ck] 25)) = W1 at z0 z1 z2 kw ⊢
  generalize w.heap.size = B0 at z0 z1 z2 ⊢
  go_wp2_with fail
  go_loopw [4] (fun s4 wr => ∃ j : Nat, s4 = .int .i64 j ∧ j ≤ N ∧ (∀ k, k < j → Fq.vld (ps.getD k (0, 0)).1 (ps.getD k (0, 0)).2 = true) ∧ wr.cell? ⟨B0, 0, none⟩ = some (.int .i64 V) ∧ wr.cell? ⟨B0, 1, none⟩ = some (.slice pc N cc) ∧ wr.cell? ⟨B0, 2, none⟩ = some (.slice pk M ck) ∧ Kp w wr) (fun s4 _ => N - (intOf s4).toNat)
  case atStart => exact ⟨0, rfl, Nat.zero_le _, fun k hk => absurd hk (Nat.not_lt_zero _), z0, z1, z2, kw⟩
  case round =>
    clear z0 z1 z2 kw
    obtain ⟨j, rfl, hj, hall9, z0, z1, z2, hkp⟩ := hrel
    obtain ⟨hx, hw, hN⟩ := HX.out
    by_cases cj : j < N
    · have HJ : Hid (j < N) := cj
      obtain ⟨b, off, rfl, hc2⟩ := hx.at (k := j) (by omega)
      have e1 : wr.cell? ⟨b, off + j * 2, none⟩ = some (.int .u64 (((ps.getD j (0, 0)).1 : Nat) : Int)) := kkeep hkp (hc2 j (by omega)).1
      have e2 : wr.cell? ⟨b, off + j * 2 + 1, none⟩ = some (.int .u64 (((ps.getD j (0, 0)).2 : Nat) : Int)) := kkeep hkp (hc2 j (by omega)).2
      have hv := rvalid9_ (ps.getD j (0, 0)).1 (ps.getD j (0, 0)).2 (hw j).1 (hw j).2
      have HA : Hid (∀ k, k < j → Fq.vld (ps.getD k (0, 0)).1 (ps.getD k (0, 0)).2 = true) := hall9
      obtain ⟨E, hE⟩ : ∃ E, E = Fq.vld (ps.getD j (0, 0)).1 (ps.getD j (0, 0)).2 := ⟨_, rfl⟩
      rw [← hE] at hv
      have HE : Hid (E = Fq.vld (ps.getD j (0, 0)).1 (ps.getD j (0, 0)).2) := hE
      clear hE hall9 hN hx hw hc2
      generalize (ps.getD j (0, 0)).1 = Y1 at e1 hv
      generalize (ps.getD j (0, 0)).2 = Y2 at e2 hv
      generalize (Y1 : Int) = Z1 at e1 hv
      generalize (Y2 : Int) = Z2 at e2 hv
      cases E
      · exact absurd HE.out.symm (by have h := HAL.out; have hN := HX.out.2.2; have := allV_at h (k := j) (by omega); rw [this]; decide)
      · go_wp2_with (first | (go_at_call 25; refine (hv _).mono ?_; rintro e w1 ⟨rfl, g1⟩; have hk1 : Kp w w1 := Kp.trans hkp g1; replace z0 := kkeep (show Kp wr w1 from g1) z0; replace z1 := kkeep (show Kp wr w1 from g1) z1; replace z2 := kkeep (show Kp wr w1 from g1) z2))
        have hJ : j < N := HJ.out
        exact ⟨⟨j + 1, by go_num, hJ, fun k hk => by
          by_cases c : k = j
          · subst c; exact HE.out.symm
          · exact HA.out k (by omega), z0, z1, z2, hk1⟩, by simp [intOf]; omega⟩
    · clear hall9 hN hx hw HX HAL
      go_upto_region 12 with fail
      go_wp2_with fail
      have HS : Hid ((wr.cell? ⟨B0, 0, none⟩ = some (.int .i64 V) ∧ wr.cell? ⟨B0, 1, none⟩ = some (.slice pc N cc) ∧ wr.cell? ⟨B0, 2, none⟩ = some (.slice pk M ck)) ∧ Kp w wr) := ⟨⟨z0, z1, z2⟩, hkp⟩
      clear z0 z1 z2 hkp cj hj
      go_loopw [5, 6] (fun s5 s6 wr => ∃ j : Nat, s5 = .int .i64 j ∧ j ≤ M ∧ (∀ k, k < j → lnAt V N L k = 0) ∧ (wr.cell? ⟨B0, 0, none⟩ = some (.int .i64 V) ∧ wr.cell? ⟨B0, 1, none⟩ = some (.slice pc N cc) ∧ wr.cell? ⟨B0, 2, none⟩ = some (.slice pk M ck)) ∧ Kp w wr) (fun s5 _ _ => M - (intOf s5).toNat)
      case atStart => exact ⟨0, rfl, Nat.zero_le _, fun k hk => absurd hk (Nat.not_lt_zero _), HS.out.1, HS.out.2⟩
      case round =>
        clear HS
        obtain ⟨j, rfl, hj, hall9, ⟨z0, z1, z2⟩, hkp⟩ := hrel
        obtain ⟨hy, hV, hN, hM, hM2, hR⟩ := HY.out
        by_cases cj : j < M
        · have HJ : Hid (j < M) := cj
          obtain ⟨b, off, rfl, hc5⟩ := hy.at (k := j) (by omega)
          obtain ⟨e0, e1, e2, e3, e4⟩ := hc5 j (by omega)
          obtain ⟨E, hE⟩ : ∃ E, E = lnAt V N L j := ⟨_, rfl⟩
          have hcl : ∀ W : World, Kp w W → Calls Try.prog 26 #[.agg #[.int .i64 V, .slice pc N cc, .slice (some ⟨b, off, none⟩) M ck], .int .i64 (j : Int)] W fun e w' => e = .returned (.int .i64 E) ∧ Kp W w' := fun W g => by
            rw [hE]; unfold lnAt
            exact rline_ V j pc N cc b off M ck _ _ _ _ _ hV cj hM2 hN W (kkeep g e0) (kkeep g e1) (kkeep g e2) (kkeep g e3) (kkeep g e4)
          have HE : Hid (E = lnAt V N L j ∧ ∀ k, k < j → lnAt V N L k = 0) := ⟨hE, hall9⟩
          clear hE hall9 hR hN hy hV hc5 e0 e1 e2 e3 e4 hM hM2
          by_cases cE : E = 0
          · subst cE
            go_wp2_with (first | (go_at_call 26; refine (hcl _ hkp).mono ?_; rintro e w1 ⟨rfl, g1⟩; have hk1 : Kp w w1 := Kp.trans hkp g1; replace z0 := kkeep g1 z0; replace z1 := kkeep g1 z1; replace z2 := kkeep g1 z2))
            have hJ : j < M := HJ.out
            exact ⟨⟨j + 1, by go_num, hJ, fun k hk => by
              by_cases c : k = j
              · subst c; exact HE.out.1.symm
              · exact HE.out.2 k (by omega), ⟨z0, z1, z2⟩, hk1⟩, by simp [intOf]; omega⟩
          · have dE : (E == 0) = false := beq_eq_false_iff_ne.2 cE
            have dE' : (E != 0) = true := by simp [cE]
            have HR : Hid (R = ((j : Int), E)) := by
              show _ = _
              obtain ⟨hy, hV, hN, hM, hM2, hR⟩ := HY.out
              rw [hR, HE.out.1]
              exact scan_bad HE.out.2 (by rw [← HE.out.1]; exact cE) M cj
            go_wp2_with (first | (go_at_call 26; refine (hcl _ hkp).mono ?_; rintro e w1 ⟨rfl, g1⟩; have hk1 : Kp w w1 := Kp.trans hkp g1))
            obtain rfl := HR.out
            exact bodyPost_ret (v := .tuple #[.int .i64 (j : Int), .int .i64 E]) (by simp [results, Try.results8, go_sem]) rfl ⟨rfl, hk1⟩
        · obtain rfl : R = (0, 0) := by rw [hR]; exact scan_ok M (fun k hk => hall9 k (by omega))
          clear hR hN hy hall9 HY hV hM hM2
          go_wp2
          exact bodyPost_ret (v := .tuple #[.int .i64 0, .int .i64 0]) (by simp [results, Try.results8, go_sem]) rfl ⟨rfl, hkp⟩
set_option maxRecDepth 20000 in
set_option maxHeartbeats 2000000 in
theorem rcheck_ (V : Int) (pc pk : Option Addr) (cc ck : Nat) (ps : List (Nat × Nat)) (L : List I5)  (w : World) (hx : AG ULV w pc ps) (hy : AI w pk L) (hw : Wq ps) (lx : ps.length ≤ 1048576) (ly : L.length ≤ 1048576) :
    Calls Try.prog 8 #[.agg #[.int .i64 V, .slice pc ps.length cc, .slice pk L.length ck]] w fun e w' => e = .returned (.tuple #[.int .i64 (chk V ps L).1, .int .i64 (chk V ps L).2]) ∧ Kp w w' := by
  by_cases c1 : 0 ≤ V ∧ V ≤ 32
  case neg => rw [chk_v c1]; exact rcheckA_ V pc pk cc ck ps L c1 w hx hy hw lx ly
  by_cases c3 : ps.length ≤ 256
  case neg => rw [chk_c c1 (fun h => c3 h.1)]; exact rcheckC_ V pc pk cc ck ps L c1 c3 w hx hy hw lx ly
  by_cases c4 : allV ps = true
  case neg => rw [chk_c c1 (fun h => c4 h.2)]; exact rcheckB_ V pc pk cc ck ps L c1 c3 (by simpa using c4) w hx hy hw lx ly
  by_cases c5 : 1 ≤ L.length ∧ L.length ≤ 1024
  case neg => rw [chk_k c1 ⟨c3, c4⟩ c5]; exact rcheckD_ V pc pk cc ck ps L c1 c3 c4 c5 w hx hy hw lx ly
  rw [chk_l c1 ⟨c3, c4⟩ c5]
  exact rcheckL_ V pc pk cc ck ps L c1 c3 c4 c5 w hx hy hw lx ly
end X7
end Go.Proofs.Ytipedmnipolmeaa
