import Derived.Test.YtokhnokobkmmkaaGreatDoorKTRk
namespace Go.Proofs.YtokhnokobkmmkaaGreatDoor
open Go.RowKit
open Go
@[go_sem] theorem run_store_float4 (P : Program) (w : World) (a : Addr) (m : Mode) (k : FloatKind) (x : Nat) : (store a (.float k x) m).run P w = stored P w a (.float k x) m := run_store P w a _ m rfl
def ArrU (w : World) (p : Option Addr) (xs : List Nat) : Prop := xs = [] ∨ ∃ b off, p = some ⟨b, off, none⟩ ∧ ∀ j, j < xs.length → w.cell? ⟨b, off + j, none⟩ = some (.int .u64 ((xs.getD j 0 : Nat) : Int))
def RwF (w : World) (g n : Nat) (xs : List Nat) : Prop := w.rowIs g 48 n (fun j => .float .f64 (xs.getD j 0))
def RwU (w : World) (g n : Nat) (xs : List Nat) : Prop := w.rowIs g 24 n (fun j => .int .u64 ((xs.getD j 0 : Nat) : Int))
theorem rowIs_kp4 {w w' : World} {g : Nat} {t : TypeId} {n : Nat} {f : Nat → Value} (h : w.rowIs g t n f) (gr : Kp w w') : w'.rowIs g t n f := h.of_block (Below.block gr g h.lt)
theorem RwF.kp {w w' : World} {g n : Nat} {xs : List Nat} (h : RwF w g n xs) (gr : Kp w w') : RwF w' g n xs := rowIs_kp4 h gr
theorem RwU.kp {w w' : World} {g n : Nat} {xs : List Nat} (h : RwU w g n xs) (gr : Kp w w') : RwU w' g n xs := rowIs_kp4 h gr
theorem RwF.kb {w w' : World} {a g n : Nat} {xs : List Nat} (h : RwF w g n xs) (k : Kb a w w') (hne : g ≠ a) : RwF w' g n xs := World.rowIs.of_block h (k.2.2.2.2 g (World.rowIs.lt h) hne)
theorem RwU.kb {w w' : World} {a g n : Nat} {xs : List Nat} (h : RwU w g n xs) (k : Kb a w w') (hne : g ≠ a) : RwU w' g n xs := World.rowIs.of_block h (k.2.2.2.2 g (World.rowIs.lt h) hne)
theorem ArrU.kp {w w' : World} {p : Option Addr} {xs : List Nat} (h : ArrU w p xs) (gr : Kp w w') : ArrU w' p xs := by
  rcases h with rfl | ⟨b, off, rfl, h⟩
  · exact Or.inl rfl
  · exact Or.inr ⟨b, off, rfl, fun j hj => kkeep gr (h j hj)⟩
theorem arr_ne {W : World} {p : Option Addr} {xs : List Nat} (h : ArrU W p xs) (g : Nat) (hg : W.heap.size ≤ g) : ∀ b off, p = some ⟨b, off, none⟩ → 0 < xs.length → b ≠ g := by
  intro b off hp hl
  rcases h with rfl | ⟨b', off', hp', hc⟩
  · simp at hl
  · rw [hp] at hp'
    simp at hp'
    have := cell_lt (hc 0 hl)
    omega
theorem RwF.front {w : World} {g n : Nat} {xs ys : List Nat} (h : RwF w g n (xs ++ ys)) (hn : xs.length ≤ n) : ArrF w (some ⟨g, 0, none⟩) xs := by
  refine Or.inr ⟨g, 0, rfl, fun j hj => ?_⟩
  rw [Nat.zero_add, World.rowIs.cell h (by omega)]
  simp [List.getD, List.getElem?_append, hj]
theorem RwU.all {w : World} {g n : Nat} {xs : List Nat} (h : RwU w g n xs) (hn : xs.length ≤ n) : ArrU w (some ⟨g, 0, none⟩) xs := by
  refine Or.inr ⟨g, 0, rfl, fun j hj => ?_⟩
  rw [Nat.zero_add, World.rowIs.cell h (by omega)]
theorem infF : (Tryz.prog.info? 48).map (fun i => (i.zero, i.size, i.bytes)) = some (some (.float .f64 0), 1, 8) := by kernel_rfl
theorem infU : (Tryz.prog.info? 24).map (fun i => (i.zero, i.size, i.bytes)) = some (some (.int .u64 0), 1, 8) := by kernel_rfl
theorem mkF (n : Nat) (h : n ≤ 1099511627776) (w : World) : (Instr.makeSlice 32 (.int .i64 (n : Int)) (.int .i64 (n : Int))).run Tryz.prog w = .ok (.slice (some ⟨w.heap.size, 0, none⟩) n n) (w.alloc (.cells (madeCells #[.float .f64 0] n) 48)) :=
  run_make_row' 32 48 (.float .f64 0) 8 Tryz.underlying32 infF rfl .i64 .i64 n (by omega) (by omega) w
theorem mkU (n : Nat) (h : n ≤ 1099511627776) (w : World) : (Instr.makeSlice 22 (.int .i64 (n : Int)) (.int .i64 (n : Int))).run Tryz.prog w = .ok (.slice (some ⟨w.heap.size, 0, none⟩) n n) (w.alloc (.cells (madeCells #[.int .u64 0] n) 24)) :=
  run_make_row' 22 24 (.int .u64 0) 8 Tryz.underlying22 infU rfl .i64 .i64 n (by omega) (by omega) w
def gdf : List Nat := List.replicate 40 4668012624728817664
theorem gdf_len : gdf.length = 40 := List.length_replicate
theorem gdf_getD (j : Nat) (h : j < 40) : gdf.getD j 0 = 4668012624728817664 := by
  unfold gdf
  rw [List.getD_eq_getElem?_getD, List.getElem?_replicate, if_pos h]; rfl
theorem app_gd (xs : List Nat) (j : Nat) (h : ¬ j < xs.length) (h2 : j < xs.length + 40) : (xs ++ gdf).getD j 0 = 4668012624728817664 := by
  have := gdf_getD (j - xs.length) (by omega)
  rw [← this]
  simp [List.getD, List.getElem?_append, h]
theorem app_fr (xs ys : List Nat) (j : Nat) (h : j < xs.length) : (xs ++ ys).getD j 0 = xs.getD j 0 := by
  simp [List.getD, List.getElem?_append, h]
theorem gpself : (FloatKind.f64.format.order 4668012624728817664 4668012624728817664 != some .eq) = false := by decide +kernel

def aP (X : Nat) : Nat := X % 9223372036854775808
set_option maxRecDepth 20000 in
set_option maxHeartbeats 1000000 in
theorem dot_ (d : Int) (hd1 : -9223372036854775808 ≤ d) (hd2 : d < 9223372036854775808) (K : Nat) (hK : K = 1074) (p p2 : Option Addr) (c c2 : Nat) (xs ys : List Nat) (hx : ∀ x ∈ xs, x < 18446744073709551616) (hy : ∀ x ∈ ys, x < 18446744073709551616) (hl : xs.length ≤ 1048576) (hxy : xs.length = ys.length) (w : World) (ha : ArrF w p xs) (ha2 : ArrF w p2 ys) (hT : Tab w) (hQ : Fq.Tab w) : Calls Tryz.prog 39 #[.int .i64 d, .slice p xs.length c, .slice p2 ys.length c2] w fun e w' => e = .returned (.tuple #[.float .f64 (rdW d (dotV xs ys) (dotS xs ys)), .int .i64 0]) ∧ Kp w w' := by
  rw [← hxy]
  have hz := zeroS
  have hst := St.zero w
  have hs : (wc (List.replicate 67 0) ++ #[Value.int .u64 0, Value.int .i64 0]).size = 69 := by rw [Array.size_append, wc_size, List.length_replicate]; rfl
  generalize wc (List.replicate 67 0) ++ #[Value.int .u64 0, Value.int .i64 0] = Z at *
  have k1 : Kp w (w.alloc (.cells Z 57)) := (Kp.refl w).alloc _
  obtain ⟨N, hN⟩ : ∃ N, N = xs.length := ⟨_, rfl⟩
  rw [← hN] at hl ⊢
  have HN : Hid (N = xs.length ∧ N ≤ 1048576 ∧ ArrF w p xs ∧ ArrF w p2 ys ∧ xs.length = ys.length) := ⟨hN, hl, ha, ha2, hxy⟩
  obtain ⟨g, hg⟩ : ∃ g, g = w.heap.size := ⟨_, rfl⟩
  have HG : Hid (g = w.heap.size) := hg
  rw [← hg] at hst
  clear hN hl ha ha2 hxy
  go_enter Tryz.func39, Tryz.ntmps39
  go_wp2
  rw [← hg]
  clear hz hg
  go_loopw [18] (fun ii wr => ∃ i : Nat, ii = .int .i64 (i : Int) ∧ i ≤ N ∧ St wr g (dotV (xs.take i) (ys.take i)) i (dotS (xs.take i) (ys.take i)) ∧ Kp w wr) (fun i _ => N - (intOf i).toNat)
  case atStart => exact ⟨0, rfl, Nat.zero_le _, by simpa [dotV, dotS] using hst, k1⟩
  case round =>
    clear hst k1
    obtain ⟨i, rfl, hi, hS, hk⟩ := hrel
    obtain ⟨hN, hl, ha, ha2, hxy⟩ := HN.out
    by_cases ci : i < N
    · have hxi := mem_lt hx i (by omega)
      have hyi := mem_lt hy i (by omega)
      rcases ha with ha | ⟨b, off, rfl, ha⟩
      · rw [ha] at hN; simp at hN; omega
      rcases ha2 with ha2 | ⟨b2, off2, rfl, ha2⟩
      · have h0 : xs.length = 0 := by rw [hxy, ha2]; rfl
        omega
      have e2 := kkeep hk (ha2 i (by omega))
      have e1 := kkeep hk (ha i (by omega))
      have had := stmul_ (xs.getD i 0) (ys.getD i 0) hxi hyi g _ i _ (by omega) wr hS
      rw [← dotV_take xs ys i hxy (by omega), ← dotS_take xs ys i hxy (by omega)] at had
      obtain ⟨X, hX⟩ : ∃ X, X = xs.getD i 0 := ⟨_, rfl⟩
      obtain ⟨Y, hY⟩ : ∃ Y, Y = ys.getD i 0 := ⟨_, rfl⟩
      rw [← hX, ← hY] at had
      rw [← hX] at e1
      rw [← hY] at e2
      clear hX hY
      have hz9 : w.heap.size ≤ g := by rw [HG.out]; exact Nat.le_refl _
      have j0 : (0 : Int) ≤ (i : Int) := by omega
      have j1 : (i : Int) < (N : Int) := by omega
      have j2 : i + 1 ≤ N := by omega
      have j3 : N - (i + 1) < N - i := by omega
      have j4 : i < 1048576 := by omega
      clear hN hl ha hi hxi hS hx ha2 hxy hyi hy
      go_wp2_with (first | (go_at_call 37; refine had.mono ?_; rintro e w1 ⟨⟨v1, rfl⟩, hS1, kb1⟩; have hk1 := kb1.kp hk hz9))
      exact ⟨⟨i + 1, by go_num, j2, hS1, hk1⟩, (show N - (i + 1) < N - i from j3)⟩
    · have hiN : i = N := by omega
      have hS : St wr g (dotV xs ys) N (dotS xs ys) := by rw [hiN, List.take_of_length_le (by omega), List.take_of_length_le (by omega)] at hS; exact hS
      have t1 : ¬ ((i : Int) < (N : Int)) := by omega
      have hle := dotV_le K hK xs ys
      have hrd := stround_ d hd1 hd2 g _ N _ (Nat.lt_of_le_of_lt hle (tb_wh K _ hK (by omega))) wr hS (hT.grown hk) (Fq.Tab.grown hQ hk)
      clear hN hl ha hi hiN ci hS hle hx hK ha2 hxy hy
      go_wp2_with (first | (go_at_call 22; refine hrd.mono ?_; rintro e w2 ⟨rfl, g2⟩))
      exact bodyPost_ret (v := .tuple #[.float .f64 (rdW d (dotV xs ys) (dotS xs ys)), .int .i64 0]) (by simp [results, Tryz.results39, go_sem]) rfl ⟨rfl, hk.trans g2⟩
set_option maxRecDepth 20000 in
set_option maxHeartbeats 1000000 in
theorem roomy4_ (p : Option Addr) (c : Nat) (xs : List Nat) (w : World) (hx : ArrU w p xs) (lx : xs.length ≤ 1048576) :
    Calls Tryz.prog 9 #[.slice p xs.length c] w fun e w' => ∃ g, e = .returned (.tuple #[.slice (some ⟨g, 0, none⟩) xs.length (xs.length + 40), .slice (some ⟨g, 0, none⟩) (xs.length + 40) (xs.length + 40)]) ∧ w.heap.size ≤ g ∧ RwF w' g (xs.length + 40) (xs ++ gdf) ∧ Kp w w' := by
  obtain ⟨N, hN⟩ : ∃ N, N = xs.length := ⟨_, rfl⟩
  rw [← hN] at lx ⊢
  have hmk : ∀ w : World, (Instr.makeSlice 32 (.int .i64 ((N : Int) + 40)) (.int .i64 ((N : Int) + 40))).run Tryz.prog w = .ok (.slice (some ⟨w.heap.size, 0, none⟩) (N + 40) (N + 40)) (w.alloc (.cells (madeCells #[.float .f64 0] (N + 40)) 48)) := by
    have := mkF (N + 40) (by omega)
    simpa using this
  have HX : Hid (ArrU w p xs) := hx
  have HN : Hid (N = xs.length) := hN
  have h0 : (w.alloc (.cells (madeCells #[.float .f64 0] (N + 40)) 48)).rowIs w.heap.size 48 (N + 40) (fun j => .float .f64 (if j < 0 then (xs ++ gdf).getD j 0 else 0)) := (World.rowIs_made w (.float .f64 0) (N + 40) 48).congr (fun j _ => by simp)
  have hg0 : Kp w (w.alloc (.cells (madeCells #[.float .f64 0] (N + 40)) 48)) := (Kp.refl w).alloc _
  obtain ⟨g, hg⟩ : ∃ g, g = w.heap.size := ⟨_, rfl⟩
  rw [← hg] at h0
  have HG : Hid (g = w.heap.size) := hg
  clear hN hx
  go_enter Tryz.func9, Tryz.ntmps9
  go_wp2
  rw [← hg]
  clear hg
  go_loopw [5] (fun i wr => ∃ k : Nat, k ≤ N + 40 ∧ i = .int .i64 k ∧ Kp w wr ∧ wr.rowIs g 48 (N + 40) (fun j => .float .f64 (if j < k then (xs ++ gdf).getD j 0 else 0))) (fun i _ => N + 40 - (intOf i).toNat)
  case atStart => exact ⟨0, Nat.zero_le _, rfl, hg0, h0⟩
  case round =>
    obtain ⟨k, hk, rfl, hgr, hrow⟩ := hrel
    clear h0 hg0 hmk
    have hN := HN.out
    have e2 := hrow.cell (i := k)
    have e3 := hrow.frozen k
    have hle : w.heap.size ≤ g := by rw [HG.out]; exact Nat.le_refl _
    by_cases ck : k < N
    · rcases HX.out with hc | ⟨b, off, rfl, hc⟩
      · rw [hc] at hN; simp at hN; omega
      have e1 := kkeep hgr (hc k (by omega))
      have hbg : b ≠ g := by have := cell_lt (hc k (by omega)); have := HG.out; omega
      have e2 := e2 (by omega)
      have e1' : (wr.setCell ⟨g, k, none⟩ (.float .f64 4668012624728817664)).cell? ⟨b, off + k, none⟩ = some (.int .u64 ((xs.getD k 0 : Nat) : Int)) := (World.cell?_setCell_far _ _ _ _ (Ne.symm hbg)).trans e1
      have hrow' := hrow.set k (.float .f64 4668012624728817664)
      have e4 := hrow'.cell (i := k) (by omega)
      have e5 := hrow'.frozen k
      have hst := (hrow'.set k (.float .f64 (xs.getD k 0)))
      have hst2 : ((wr.setCell ⟨g, k, none⟩ (.float .f64 4668012624728817664)).setCell ⟨g, k, none⟩ (.float .f64 (xs.getD k 0))).rowIs g 48 (N + 40) (fun j => .float .f64 (if j < k + 1 then (xs ++ gdf).getD j 0 else 0)) := hst.congr (fun j _ => by
        by_cases c1 : j = k
        · subst c1; rw [if_pos rfl, if_pos (by omega), app_fr xs gdf j (by omega)]
        · rw [if_neg c1, if_neg c1]
          by_cases c2 : j < k
          · rw [if_pos c2, if_pos (by omega)]
          · rw [if_neg c2, if_neg (by omega)])
      have hgs : Kp w ((wr.setCell ⟨g, k, none⟩ (.float .f64 4668012624728817664)).setCell ⟨g, k, none⟩ (.float .f64 (xs.getD k 0))) := (hgr.setCell hle _).setCell hle _
      obtain ⟨X, hX⟩ : ∃ X, X = xs.getD k 0 := ⟨_, rfl⟩
      have hfl := fl4_ X
      rw [← hX] at e1' hst2 hgs
      have i1 : (k : Int) < (N : Int) := by omega
      have i2 : (k : Int) < (N : Int) + 40 := by omega
      clear hc HX HN HG hN hX hrow hgr e1 hrow' hst
      go_wp2_with (first | (go_at_call 18; refine (hfl _).mono ?_; rintro e w' ⟨rfl, hw'⟩; obtain rfl := hw'.symm; clear hw'))
      exact ⟨⟨k + 1, by omega, by go_num, hgs, hst2⟩, by simp [intOf]; omega⟩
    · by_cases cm : k < N + 40
      · have e2 := e2 cm
        have hst : (wr.setCell ⟨g, k, none⟩ (.float .f64 4668012624728817664)).rowIs g 48 (N + 40) (fun j => .float .f64 (if j < k + 1 then (xs ++ gdf).getD j 0 else 0)) := (hrow.set k (.float .f64 4668012624728817664)).congr (fun j _ => by
          by_cases c1 : j = k
          · subst c1
            rw [if_pos rfl, if_pos (by omega), app_gd xs j (by omega) (by omega)]
          · rw [if_neg c1]
            by_cases c2 : j < k
            · rw [if_pos c2, if_pos (by omega)]
            · rw [if_neg c2, if_neg (by omega)])
        have hgs : Kp w (wr.setCell ⟨g, k, none⟩ (.float .f64 4668012624728817664)) := hgr.setCell hle _
        have i1 : ¬ ((k : Int) < (N : Int)) := by omega
        have i2 : (k : Int) < (N : Int) + 40 := by omega
        clear HX HN HG hN hrow hgr
        go_wp2
        exact ⟨⟨k + 1, by omega, by go_num, hgs, hst⟩, by simp [intOf]; omega⟩
      · have hkN : k = N + 40 := by omega
        have hrow2 : RwF wr g (N + 40) (xs ++ gdf) := hrow.congr (fun j hj => by rw [if_pos (by omega)])
        have i2 : ¬ ((k : Int) < (N : Int) + 40) := by omega
        clear hrow hN HN HX HG e2 e3
        go_wp2
        exact bodyPost_ret (v := .tuple #[.slice (some ⟨g, 0, none⟩) N (N + 40), .slice (some ⟨g, 0, none⟩) (N + 40) (N + 40)]) (by simp [results, Tryz.results9, go_sem] <;> simp only [*]) rfl ⟨g, rfl, hle, hrow2, hgr⟩
set_option maxRecDepth 20000 in
set_option maxHeartbeats 1000000 in
theorem left4_ (p : Option Addr) (c g : Nat) (us : List Nat) (w : World) (hx : ArrU w p us) (hr : RwF w g (us.length + 40) (us ++ gdf)) (lx : us.length ≤ 1048576) :
    Calls Tryz.prog 11 #[.slice p us.length c, .slice (some ⟨g, 0, none⟩) (us.length + 40) (us.length + 40)] w fun e w' => e = .returned (.bool true) ∧ Kp w w' := by
  obtain ⟨N, hN⟩ : ∃ N, N = us.length := ⟨_, rfl⟩
  rw [← hN] at lx ⊢
  have HR : Hid (RwF w g (N + 40) (us ++ gdf)) := by rw [hN]; exact hr
  have HX : Hid (ArrU w p us) := hx
  have HN : Hid (N = us.length) := hN
  clear hN hx hr
  go_enter Tryz.func11, Tryz.ntmps11
  go_wp2
  go_loopw [5] (fun i wr => ∃ k : Nat, k ≤ N + 40 ∧ i = .int .i64 k ∧ Kp w wr) (fun i _ => N + 40 - (intOf i).toNat)
  case atStart => exact ⟨0, by omega, rfl, Kp.refl _⟩
  case round =>
    obtain ⟨k, hk2, rfl, hkw⟩ := hrel
    have hN := HN.out
    by_cases ck : k < N + 40
    · have e1 := kkeep hkw (World.rowIs.cell HR.out ck)
      have i1 : (k : Int) < (N : Int) + 40 := by omega
      by_cases cn : k < N
      · rw [app_fr us gdf k (by omega)] at e1
        rcases HX.out with hc | ⟨b, off, rfl, hc⟩
        · rw [hc] at hN; simp at hN; omega
        have e2 := kkeep hkw (hc k (by omega))
        have i2 : (k : Int) < (N : Int) := by omega
        have i3 : ¬ N ≤ k := by omega
        obtain ⟨X, hX⟩ : ∃ X, X = us.getD k 0 := ⟨_, rfl⟩
        have hfl := fl4_ X
        have hfb := Fq.fb64 X
        rw [← hX] at e1 e2
        clear HR HN hN HX hX hc
        go_wp2
        go_quiet (first | (go_at_call 18; exact Calls.quiet_of_same (hfl _)))
        go_wp2
        exact ⟨⟨k + 1, by omega, by go_num, Kp.drewN _ hkw⟩, by simp [intOf]; omega⟩
      · rw [app_gd us k (by omega) (by omega)] at e1
        have i2 : ¬ ((k : Int) < (N : Int)) := by omega
        have i3 : N ≤ k := by omega
        have hgp := gpself
        clear HR HN hN HX
        go_wp2
        go_quiet (fail)
        go_wp2
        exact ⟨⟨k + 1, by omega, by go_num, Kp.drewN _ hkw⟩, by simp [intOf]; omega⟩
    · have i1 : ¬ ((k : Int) < (N : Int) + 40) := by omega
      clear HR HN hN HX
      go_wp2
      exact bodyPost_ret (v := .bool true) (by simp [results, Tryz.results11, go_sem] <;> simp only [*]) rfl ⟨rfl, hkw⟩
set_option maxRecDepth 20000 in
set_option maxHeartbeats 1000000 in
theorem place4_ (g n c : Nat) (p : Option Addr) (us ts gs : List Nat) (w : World) (hr : RwF w g n (us ++ gs)) (hl : us.length = ts.length) (hn : us.length + gs.length = n) (ht : ArrU w p ts) (hb : ∀ b off, p = some ⟨b, off, none⟩ → 0 < ts.length → b ≠ g) (lx : us.length ≤ 1048576) :
    Calls Tryz.prog 12 #[.slice (some ⟨g, 0, none⟩) us.length n, .slice p ts.length c] w fun e w' => ∃ v, e = .returned v ∧ RwF w' g n (ts ++ gs) ∧ Kb g w w' := by
  obtain ⟨N, hN⟩ : ∃ N, N = us.length := ⟨_, rfl⟩
  rw [← hN] at lx
  rw [← hl, ← hN]
  have HT : Hid (ArrU w p ts ∧ ∀ b off, p = some ⟨b, off, none⟩ → 0 < ts.length → b ≠ g) := ⟨ht, hb⟩
  have HN : Hid (N = us.length ∧ us.length = ts.length ∧ us.length + gs.length = n) := ⟨hN, hl, hn⟩
  have h0 : w.rowIs g 48 n (fun j => .float .f64 (if j < 0 then ts.getD j 0 else (us ++ gs).getD j 0)) := World.rowIs.congr hr (fun j _ => by rw [if_neg (by omega)])
  clear hN hl hn ht hr hb
  go_enter Tryz.func12, Tryz.ntmps12
  go_wp2
  go_loopw [4] (fun i wr => ∃ k : Nat, k ≤ N ∧ i = .int .i64 k ∧ Kb g w wr ∧ wr.rowIs g 48 n (fun j => .float .f64 (if j < k then ts.getD j 0 else (us ++ gs).getD j 0))) (fun i _ => N - (intOf i).toNat)
  case atStart => exact ⟨0, Nat.zero_le _, rfl, Kb.refl _ _, h0⟩
  case round =>
    clear h0
    obtain ⟨k, hk, rfl, hkb, hrow⟩ := hrel
    obtain ⟨hN, hl, hn⟩ := HN.out
    by_cases ck : k < N
    · obtain ⟨ht, hb⟩ := HT.out
      rcases ht with ht | ⟨b, off, rfl, ht⟩
      · rw [ht] at hl; simp at hl; rw [hl] at hN; simp at hN; omega
      have hb := hb _ _ rfl (by omega)
      have e1 := hkb.arr hb (ht k (by omega))
      have e2 := hrow.cell (i := k) (by omega)
      have e3 := hrow.frozen k
      have hst : (wr.setCell ⟨g, k, none⟩ (.float .f64 (ts.getD k 0))).rowIs g 48 n (fun j => .float .f64 (if j < k + 1 then ts.getD j 0 else (us ++ gs).getD j 0)) := by
        refine (hrow.set k (.float .f64 (ts.getD k 0))).congr (fun j _ => ?_)
        by_cases c1 : j = k
        · subst c1; rw [if_pos rfl, if_pos (by omega)]
        · rw [if_neg c1]
          by_cases c2 : j < k
          · rw [if_pos c2, if_pos (by omega)]
          · rw [if_neg c2, if_neg (by omega)]
      have hks := hkb.setCell k (.float .f64 (ts.getD k 0))
      obtain ⟨X, hX⟩ : ∃ X, X = ts.getD k 0 := ⟨_, rfl⟩
      have hfl := fl4_ X
      rw [← hX] at e1 hst hks
      have e2' : ∃ v, wr.cell? ⟨g, k, none⟩ = some v := ⟨_, e2⟩
      obtain ⟨V, hV⟩ := e2'
      have i1 : (k : Int) < (N : Int) := by omega
      clear HT HN hN hl hn hX hrow hkb e2 ht hb
      go_wp2_with (first | (go_at_call 18; refine (hfl _).mono ?_; rintro e w' ⟨rfl, hw'⟩; obtain rfl := hw'.symm; clear hw'))
      exact ⟨⟨k + 1, by omega, by go_num, hks, hst⟩, by simp [intOf]; omega⟩
    · have hkN : k = N := by omega
      have hrow2 : RwF wr g n (ts ++ gs) := World.rowIs.congr hrow (fun j _ => by
        by_cases c1 : j < k
        · rw [if_pos c1]; simp [List.getD, List.getElem?_append, show j < ts.length from by omega]
        · rw [if_neg c1]
          simp [List.getD, List.getElem?_append, show ¬ j < ts.length from by omega, hl])
      have i1 : ¬ ((k : Int) < (N : Int)) := by omega
      clear hrow hN hl hn HN HT
      go_wp2
      exact bodyPost_end (v := .tuple #[]) (by kernel_rfl) rfl ⟨⟨_, rfl⟩, hrow2, hkb⟩
end Go.Proofs.YtokhnokobkmmkaaGreatDoor
