import Derived.Test.YtokhnokobkmmkaaGreatDoorKTLa
namespace Go.Proofs.YtokhnokobkmmkaaGreatDoor
open Go.RowKit

def tX (x : Nat) : Nat := x ^^^ 9223372036854775808
theorem tX_lt (x : Nat) (h : x < 18446744073709551616) : tX x < 18446744073709551616 := Nat.xor_lt_two_pow (n := 64) h (by decide)
theorem xor_top (x : Nat) (h : x < 18446744073709551616) : bits .xor .u64 (x : Int) 9223372036854775808 = ((tX x : Nat) : Int) := bits_xor_u64_nat x 9223372036854775808 h (by decide)
def othL (xs : List Nat) : List Nat := if xs.length = 0 then [] else (xs.set (xs.length / 2) 4607182418800017408).set 0 (tX ((xs.set (xs.length / 2) 4607182418800017408).getD 0 0))
theorem othL_len (xs : List Nat) : (othL xs).length = xs.length := by
  unfold othL
  by_cases c : xs.length = 0
  · rw [if_pos c, c]; rfl
  · rw [if_neg c]; simp
theorem mem_set4 {xs : List Nat} {k y M : Nat} (hx : ∀ x ∈ xs, x < M) (hy : y < M) : ∀ x ∈ xs.set k y, x < M := fun x h => by
  rcases List.mem_or_eq_of_mem_set h with h | h
  · exact hx x h
  · rw [h]; exact hy
theorem getD_lt {xs : List Nat} {M : Nat} (hx : ∀ x ∈ xs, x < M) (k : Nat) (hM : 0 < M) : xs.getD k 0 < M := by
  rw [List.getD_eq_getElem?_getD]
  cases h : xs[k]? with
  | none => simpa using hM
  | some v => simpa using hx v (List.mem_of_getElem? h)
theorem othL_lt (xs : List Nat) (hx : ∀ x ∈ xs, x < 18446744073709551616) : ∀ x ∈ othL xs, x < 18446744073709551616 := by
  unfold othL
  by_cases c : xs.length = 0
  · rw [if_pos c]; simp
  · rw [if_neg c]
    have h1 := mem_set4 (k := xs.length / 2) hx (show 4607182418800017408 < 18446744073709551616 by decide)
    exact mem_set4 h1 (tX_lt _ (getD_lt h1 0 (by decide)))
theorem RwU.set {w : World} {g n : Nat} {xs : List Nat} (h : RwU w g n xs) (k x : Nat) (hk : k < xs.length) : RwU (w.setCell ⟨g, k, none⟩ (.int .u64 (x : Int))) g n (xs.set k x) := by
  refine (World.rowIs.set h k (.int .u64 (x : Int))).congr (fun j _ => ?_)
  by_cases c : j = k
  · subst c; rw [if_pos rfl]; simp [List.getD, hk]
  · rw [if_neg c]; simp [List.getD, Ne.symm c]
set_option maxRecDepth 20000 in
set_option maxHeartbeats 1000000 in
theorem other4_ (p : Option Addr) (c : Nat) (xs : List Nat) (w : World) (hx : ArrU w p xs) (hw : ∀ x ∈ xs, x < 18446744073709551616) (lx : xs.length ≤ 1048576) :
    Calls Tryz.prog 6 #[.slice p xs.length c] w fun e w' => ∃ g, e = .returned (.slice (some ⟨g, 0, none⟩) xs.length xs.length) ∧ w.heap.size ≤ g ∧ RwU w' g xs.length (othL xs) ∧ Kp w w' := by
  obtain ⟨N, hN⟩ : ∃ N, N = xs.length := ⟨_, rfl⟩
  rw [← hN] at lx ⊢
  have hmk := mkU N (by omega)
  have HX : Hid (ArrU w p xs) := hx
  have HN : Hid (N = xs.length ∧ ∀ x ∈ xs, x < 18446744073709551616) := ⟨hN, hw⟩
  have h0 : (w.alloc (.cells (madeCells #[.int .u64 0] N) 24)).rowIs w.heap.size 24 N (fun j => .int .u64 (((if j < 0 then xs.getD j 0 else 0) : Nat) : Int)) := (World.rowIs_made w (.int .u64 0) N 24).congr (fun j _ => by simp)
  have hg0 : Kp w (w.alloc (.cells (madeCells #[.int .u64 0] N) 24)) := (Kp.refl w).alloc _
  obtain ⟨g, hg⟩ : ∃ g, g = w.heap.size := ⟨_, rfl⟩
  rw [← hg] at h0
  have HG : Hid (g = w.heap.size) := hg
  clear hN hx hw
  go_enter Tryz.func6, Tryz.ntmps6
  go_wp2
  rw [← hg]
  clear hg
  go_loopw [4] (fun i wr => ∃ k : Nat, k ≤ N ∧ i = .int .i64 k ∧ Kp w wr ∧ wr.rowIs g 24 N (fun j => .int .u64 (((if j < k then xs.getD j 0 else 0) : Nat) : Int))) (fun i _ => N - (intOf i).toNat)
  case atStart => exact ⟨0, Nat.zero_le _, rfl, hg0, h0⟩
  case round =>
    obtain ⟨k, hk, rfl, hgr, hrow⟩ := hrel
    clear h0 hg0 hmk
    obtain ⟨hN, hw⟩ := HN.out
    have hle : w.heap.size ≤ g := by rw [HG.out]; exact Nat.le_refl _
    by_cases ck : k < N
    · rcases HX.out with hc | ⟨b, off, rfl, hc⟩
      · rw [hc] at hN; simp at hN; omega
      have e1 := kkeep hgr (hc k (by omega))
      have e2 := hrow.cell (i := k) (by omega)
      have e3 := hrow.frozen k
      have hst : (wr.setCell ⟨g, k, none⟩ (.int .u64 ((xs.getD k 0 : Nat) : Int))).rowIs g 24 N (fun j => .int .u64 (((if j < k + 1 then xs.getD j 0 else 0) : Nat) : Int)) := (hrow.set k (.int .u64 ((xs.getD k 0 : Nat) : Int))).congr (fun j _ => by
        by_cases c1 : j = k
        · subst c1; rw [if_pos rfl, if_pos (by omega)]
        · rw [if_neg c1]
          by_cases c2 : j < k
          · rw [if_pos c2, if_pos (by omega)]
          · rw [if_neg c2, if_neg (by omega)])
      have hgs : Kp w (wr.setCell ⟨g, k, none⟩ (.int .u64 ((xs.getD k 0 : Nat) : Int))) := hgr.setCell hle _
      obtain ⟨X, hX⟩ : ∃ X, X = ((xs.getD k 0 : Nat) : Int) := ⟨_, rfl⟩
      rw [← hX] at e1 hst hgs
      have e2' : ∃ v, wr.cell? ⟨g, k, none⟩ = some v := ⟨_, e2⟩
      obtain ⟨V, hV⟩ := e2'
      have i1 : (k : Int) < (N : Int) := by omega
      clear hc HX HN HG hN hX hrow hgr e2 hw
      go_wp2
      exact ⟨⟨k + 1, by omega, by go_num, hgs, hst⟩, by simp [intOf]; omega⟩
    · have hkN : k = N := by omega
      have i1 : ¬ ((k : Int) < (N : Int)) := by omega
      have hrow2 : RwU wr g N xs := hrow.congr (fun j hj => by rw [if_pos (by omega)])
      by_cases c0 : N = 0
      · have i0 : ¬ (0 < (N : Int)) := by omega
        have hr : RwU wr g N (othL xs) := by
          have : othL xs = xs := by unfold othL; rw [if_pos (by omega)]; exact (List.eq_nil_of_length_eq_zero (by omega)).symm
          rw [this]; exact hrow2
        clear HX HN HG hrow hN hw hrow2 c0
        go_wp2
        exact bodyPost_ret (v := .slice (some ⟨g, 0, none⟩) N N) (by simp [results, Tryz.results6, go_sem] <;> simp only [*]) rfl ⟨g, rfl, hle, hr, hgr⟩
      · have i0 : 0 < (N : Int) := by omega
        have i2 : (N : Int).tdiv 2 = ((N / 2 : Nat) : Int) := by rw [Int.tdiv_eq_ediv_of_nonneg (by omega)]; omega
        have r1 := hrow2.set (N / 2) 4607182418800017408 (by omega)
        have h1 := mem_set4 (k := N / 2) hw (show 4607182418800017408 < 18446744073709551616 by decide)
        have q1 := World.rowIs.cell hrow2 (i := N / 2) (by omega)
        have q2 := World.rowIs.frozen hrow2 (N / 2)
        have q3 := World.rowIs.cell r1 (i := 0) (by omega)
        have q4 := World.rowIs.frozen r1 0
        have r2 := r1.set 0 (tX ((xs.set (N / 2) 4607182418800017408).getD 0 0)) (by simp; omega)
        have hx2 := xor_top _ (getD_lt h1 0 (by decide))
        have hr : (xs.set (N / 2) 4607182418800017408).set 0 (tX ((xs.set (N / 2) 4607182418800017408).getD 0 0)) = othL xs := by unfold othL; rw [if_neg (by omega), ← hN]
        rw [hr] at r2
        have hgs : Kp w ((wr.setCell ⟨g, N / 2, none⟩ (.int .u64 ((4607182418800017408 : Nat) : Int))).setCell ⟨g, 0, none⟩ (.int .u64 ((tX ((xs.set (N / 2) 4607182418800017408).getD 0 0) : Nat) : Int))) := (hgr.setCell hle _).setCell hle _
        obtain ⟨Y, hY⟩ : ∃ Y, Y = ((tX ((xs.set (N / 2) 4607182418800017408).getD 0 0) : Nat) : Int) := ⟨_, rfl⟩
        rw [← hY] at hx2 r2 hgs
        obtain ⟨Z, hZ⟩ : ∃ Z, Z = (((xs.set (N / 2) 4607182418800017408).getD 0 0 : Nat) : Int) := ⟨_, rfl⟩
        rw [← hZ] at q3 hx2
        obtain ⟨V, hV⟩ : ∃ V, V = (((xs).getD (N / 2) 0 : Nat) : Int) := ⟨_, rfl⟩
        rw [← hV] at q1
        have i3 : ((N / 2 : Nat) : Int) < (N : Int) := by omega
        have i4 : (0 : Int) ≤ ((N / 2 : Nat) : Int) := by omega
        generalize hh : N / 2 = H at *
        clear HX HN HG hrow hN hw hrow2 r1 h1 hr hgr hY hZ hV hh
        rw [show (((4607182418800017408 : Nat) : Int)) = 4607182418800017408 from rfl] at q3 q4 r2 hgs
        go_wp2
        exact bodyPost_ret (v := .slice (some ⟨g, 0, none⟩) N N) (by simp [results, Tryz.results6, go_sem] <;> simp only [*]) rfl ⟨g, rfl, hle, r2, hgs⟩

def Sz (G : Nat → Prop) (w : World) (b : Nat) (V : Int) (K T : Nat) (P M N : Bool) : Prop := ∃ (s1 : Bool) (p1 : Option Addr) (l1 c1 : Nat) (q1 : Option Addr) (k1 d1 : Nat), H7c w b (.bool s1) (.slice p1 l1 c1) (.slice q1 k1 d1) (.bool P) (.bool M) (.bool N) (.int .u64 (T : Int)) ∧ Dy 0 w s1 p1 l1 c1 q1 k1 d1 V (K + K) ∧ ∀ g, G g → NB p1 q1 g
theorem Sz.put {G : Nat → Prop} {w : World} {b : Nat} {v0 v1 v2 v3 v4 v5 v6 : Value} (h : H7c w b v0 v1 v2 v3 v4 v5 v6) {s2 : Bool} {p2 : Option Addr} {l2 c2 : Nat} {q2 : Option Addr} {k2 d2 : Nat} {P2 M2 N2 : Bool} {V : Int} {K T2 : Nat} (hD : Dy 0 w s2 p2 l2 c2 q2 k2 d2 V (K + K)) (hN : ∀ g, G g → NB p2 q2 g) (hb : NB p2 q2 b) : Sz G (((((((w.setCell ⟨b, 0, none⟩ (.bool s2)).setCell ⟨b, 1, none⟩ (.slice p2 l2 c2)).setCell ⟨b, 2, none⟩ (.slice q2 k2 d2)).setCell ⟨b, 3, none⟩ (.bool P2)).setCell ⟨b, 4, none⟩ (.bool M2)).setCell ⟨b, 5, none⟩ (.bool N2)).setCell ⟨b, 6, none⟩ (.int .u64 (T2 : Int))) b V K T2 P2 M2 N2 :=
  ⟨s2, p2, l2, c2, q2, k2, d2, h.put (_) (_) (_) (_) (_) (_) (_), (Dy.setNe (Dy.setNe (Dy.setNe (Dy.setNe (Dy.setNe (Dy.setNe (Dy.setNe hD (x := ⟨b, 0, none⟩) hb _) (x := ⟨b, 1, none⟩) hb _) (x := ⟨b, 2, none⟩) hb _) (x := ⟨b, 3, none⟩) hb _) (x := ⟨b, 4, none⟩) hb _) (x := ⟨b, 5, none⟩) hb _) (x := ⟨b, 6, none⟩) hb _), hN⟩
theorem kp_put7 {W w : World} {b : Nat} (k : Kp W w) (hle : W.heap.size ≤ b) (u0 u1 u2 u3 u4 u5 u6 : Value) : Kp W (((((((w.setCell ⟨b, 0, none⟩ u0).setCell ⟨b, 1, none⟩ u1).setCell ⟨b, 2, none⟩ u2).setCell ⟨b, 3, none⟩ u3).setCell ⟨b, 4, none⟩ u4).setCell ⟨b, 5, none⟩ u5).setCell ⟨b, 6, none⟩ u6) := (((((((k.setCell hle _).setCell hle _).setCell hle _).setCell hle _).setCell hle _).setCell hle _).setCell hle _)
theorem lt_wh {n : Nat} (h : n < wh) : n < 2 ^ 4287 := by
  have e : wh = 2 ^ 4287 := by decide +kernel
  rw [← e]; exact h
set_option maxRecDepth 20000 in
set_option maxHeartbeats 2000000 in
theorem rdot4_ (d : Int) (K : Nat) (hK : K = 1074) (p p2 : Option Addr) (c c2 : Nat) (xs ys : List Nat) (hx : ∀ x ∈ xs, x < 18446744073709551616) (hy : ∀ x ∈ ys, x < 18446744073709551616) (hl : xs.length ≤ 1048576) (hxy : xs.length = ys.length) (w : World) (ha : ArrU w p xs) (ha2 : ArrU w p2 ys) : Calls Tryz.prog 14 #[.int .i64 d, .slice p xs.length c, .slice p2 ys.length c2] w fun e w' => e = .returned (.tuple #[.int .u64 ((rdW d (dotV xs ys) (dotS xs ys) : Nat) : Int), .int .i64 0]) ∧ Kp w w' := by
  rw [← hxy]
  have hnew := new4_ K
  obtain ⟨N, hN⟩ : ∃ N, N = xs.length := ⟨_, rfl⟩
  rw [← hN] at hl ⊢
  have HN : Hid (N = xs.length ∧ N ≤ 1048576 ∧ ArrU w p xs ∧ ArrU w p2 ys ∧ xs.length = ys.length ∧ K = 1074) := ⟨hN, hl, ha, ha2, hxy, hK⟩
  have HW : Hid ((∀ x ∈ xs, x < 18446744073709551616) ∧ ∀ x ∈ ys, x < 18446744073709551616) := ⟨hx, hy⟩
  clear hN hl ha ha2 hxy hK hx hy
  go_enter Tryz.func14, Tryz.ntmps14
  go_wp2_with (first | (go_at_call 30; refine (hnew _).mono ?_; rintro e W1 ⟨v, rfl, hz, g1⟩; obtain ⟨s1, p1, l1, c1, q1, k1, d1, rfl, hD, hNb⟩ := hz (fun g => g = W1.heap.size) (fun g hg => Or.inl (Nat.le_of_eq hg.symm))))
  have hS0 : Sz (fun g => g = W1.heap.size) (W1.alloc (.cells #[.bool s1, .slice p1 l1 c1, .slice q1 k1 d1, .bool false, .bool false, .bool false, .int .u64 0] 30)) W1.heap.size 0 K 0 false false false := ⟨s1, p1, l1, c1, q1, k1, d1, H7c.new W1 (.bool s1) (.slice p1 l1 c1) (.slice q1 k1 d1) (.bool false) (.bool false) (.bool false) (.int .u64 0) 30, hD.kp ((Kp.refl _).alloc _), hNb⟩
  have k0 : Kp w (W1.alloc (.cells #[.bool s1, .slice p1 l1 c1, .slice q1 k1 d1, .bool false, .bool false, .bool false, .int .u64 0] 30)) := g1.alloc _
  have hle : w.heap.size ≤ W1.heap.size := g1.size
  have hz0 : stI false false false = 0 := rfl
  clear hD hNb g1 hz hnew
  generalize W1.heap.size = b at *
  go_loopw [9] (fun ii wr => ∃ (i : Nat) (P M NN : Bool), ii = .int .i64 (i : Int) ∧ i ≤ N ∧ Sz (fun g => g = b) wr b (dotV (xs.take i) (ys.take i)) K i P M NN ∧ stI P M NN = dotS (xs.take i) (ys.take i) ∧ Kp w wr) (fun i _ => N - (intOf i).toNat)
  case atStart => exact ⟨0, false, false, false, rfl, Nat.zero_le _, by simpa [dotV, dotS] using hS0, by rw [hz0]; simp [dotS], k0⟩
  case round =>
    clear hS0 k0 hz0
    obtain ⟨i, P, M, NN, rfl, hi, ⟨s1, p1, l1, c1, q1, k1, d1, h7, hD, hNb⟩, hst, hk⟩ := hrel
    obtain ⟨hN, hl, ha, ha2, hxy, hK⟩ := HN.out
    obtain ⟨hx, hy⟩ := HW.out
    by_cases ci : i < N
    · have hxi := mem_lt hx i (by omega)
      have hyi := mem_lt hy i (by omega)
      rcases ha with ha | ⟨bx, off, rfl, ha⟩
      · rw [ha] at hN; simp at hN; omega
      rcases ha2 with ha2 | ⟨by_, off2, rfl, ha2⟩
      · have h0 : xs.length = 0 := by rw [hxy, ha2]; rfl
        omega
      have e1 := kkeep hk (ha i (by omega))
      have e2 := kkeep hk (ha2 i (by omega))
      have h7 : H7c wr.drew b (.bool s1) (.slice p1 l1 c1) (.slice q1 k1 d1) (.bool P) (.bool M) (.bool NN) (.int .u64 (i : Int)) := h7
      have hkd : Kp w wr.drew := hk.drew
      have hlt := h7.lt
      have hV1 : (dotV (xs.take i) (ys.take i)).natAbs < 2 ^ 4287 := by
        have h1 := dotV_le K hK (xs.take i) (ys.take i)
        exact lt_wh (Nat.lt_of_le_of_lt h1 (tb_wh K _ hK (by simp; omega)))
      have hV2 : (yV (xs.getD i 0) (ys.getD i 0)).natAbs < 2 ^ 4287 := by
        have h1 := yV_le (xs.getD i 0) (ys.getD i 0) K hK
        have h2 := tb_wh K 1 hK (by omega)
        rw [Nat.one_mul] at h2
        exact lt_wh (Nat.lt_of_le_of_lt h1 h2)
      have hmu := refmul_ (xs.getD i 0) (ys.getD i 0) K 4287 hK hxi hyi (by omega) _ (dotV (xs.take i) (ys.take i)) i (by omega) P M NN hV1 hV2 (fun g => g = b) wr.drew (fun g hg => by rw [hg]; exact hlt) ⟨s1, p1, l1, c1, q1, k1, d1, rfl, hD, hNb⟩
      have hst2 : stI (P || yP (xs.getD i 0) (ys.getD i 0)) (M || yM (xs.getD i 0) (ys.getD i 0)) (NN || yN (xs.getD i 0) (ys.getD i 0)) = dotS (xs.take (i + 1)) (ys.take (i + 1)) := by
        unfold yP yM yN
        rw [stI_jn _ _ _ _ (yS_cases _ _), hst, dotS_take xs ys i hxy (by omega)]
      rw [← dotV_take xs ys i hxy (by omega)] at hmu
      generalize hV : dotV (xs.take (i + 1)) (ys.take (i + 1)) = VV at *
      have hV : Hid (dotV (xs.take (i + 1)) (ys.take (i + 1)) = VV) := hV
      generalize (P || yP (xs.getD i 0) (ys.getD i 0)) = PP at *
      generalize (M || yM (xs.getD i 0) (ys.getD i 0)) = MM at *
      generalize (NN || yN (xs.getD i 0) (ys.getD i 0)) = NX at *
      obtain ⟨X, hX⟩ : ∃ X, X = xs.getD i 0 := ⟨_, rfl⟩
      obtain ⟨Y, hY⟩ : ∃ Y, Y = ys.getD i 0 := ⟨_, rfl⟩
      rw [← hX, ← hY] at hmu
      rw [← hX] at e1
      rw [← hY] at e2
      have e1 : wr.drew.cell? ⟨bx, off + i, none⟩ = some (.int .u64 (X : Int)) := e1
      have e2 : wr.drew.cell? ⟨by_, off2 + i, none⟩ = some (.int .u64 (Y : Int)) := e2
      have j1 : (i : Int) < (N : Int) := by omega
      have j2 : i + 1 ≤ N := by omega
      have j3 : N - (i + 1) < N - i := by omega
      have j4 : i < 1048576 := by omega
      obtain ⟨r0, r1, r2, r3, r4, r5, r6, r7, r8, r9, r10, r11, r12, r13⟩ := id h7
      have HH : Hid (H7c wr.drew b (.bool s1) (.slice p1 l1 c1) (.slice q1 k1 d1) (.bool P) (.bool M) (.bool NN) (.int .u64 (i : Int)) ∧ Kp w wr.drew ∧ w.heap.size ≤ b ∧ stI PP MM NX = dotS (xs.take (i + 1)) (ys.take (i + 1))) := ⟨h7, hkd, hle, hst2⟩
      clear hN hl ha hi hxi hx ha2 hxy hyi hy HN HW hX hY hD hNb hst hk hK hV1 hV2 hlt hst2 hle
      go_upto_region 7 with fail
      first | (go_region_with (first | (go_at_call 31; refine hmu.mono ?_; rintro e W3 ⟨v3, rfl, ⟨s3, p3, l3, c3, q3, k3, d3, rfl, D3, nb3⟩, g3⟩; have kw3 := hkd.trans g3; have h73 := h7.keep g3; obtain ⟨u0, u1, u2, u3, u4, u5, u6, u7, u8, u9, u10, u11, u12, u13⟩ := id h73))) | fail
      all_goals (
        go_wp2
        obtain ⟨h7, hkd, hle, hst2⟩ := HH.out
        refine ⟨⟨i + 1, PP, MM, NX, by go_num, j2, ?_, hst2, ?_⟩, (show N - (i + 1) < N - i from j3)⟩
        · rw [hV.out]
          exact Sz.put (h7.keep g3) D3 nb3 (nb3 _ rfl)
        · exact kp_put7 kw3 hle _ _ _ _ _ _ _)
    · have hiN : i = N := by omega
      have t1 : ¬ ((i : Int) < (N : Int)) := by omega
      rw [hiN, List.take_of_length_le (by omega), List.take_of_length_le (by omega)] at hst
      rw [hiN, List.take_of_length_le (by omega), List.take_of_length_le (by omega)] at hD
      have hle2 := dotV_le K hK xs ys
      have hrd := fun (W : World) (g : Kp wr W) => rround_ d s1 p1 l1 c1 q1 k1 d1 P M NN (i : Int) (dotV xs ys) (K + K) K 4287 hK rfl (by omega) (lt_wh (Nat.lt_of_le_of_lt hle2 (tb_wh K _ hK (by omega)))) 0 W (hD.kp g)
      rw [hst] at hrd
      have hrd := hrd wr (Kp.refl _)
      obtain ⟨r0, r1, r2, r3, r4, r5, r6, r7, r8, r9, r10, r11, r12, r13⟩ := id h7
      clear hN hl ha hi hiN ci hD hNb hle2 hx hK ha2 hxy hy HN HW hst h7
      go_wp2_with (first | (go_at_call 7; refine hrd.mono ?_; rintro e w2 ⟨rfl, g2⟩))
      exact bodyPost_ret (v := .tuple #[.int .u64 ((rdW d (dotV xs ys) (dotS xs ys) : Nat) : Int), .int .i64 0]) (by simp [results, Tryz.results14, go_sem]) rfl ⟨rfl, hk.trans g2⟩
set_option maxRecDepth 20000 in
set_option maxHeartbeats 400000 in
theorem rdotE4_ (d : Int) (p p2 : Option Addr) (c c2 : Nat) (n m : Nat) (h : n ≠ m) (w : World) : Calls Tryz.prog 14 #[.int .i64 d, .slice p n c, .slice p2 m c2] w fun e w' => e = .returned (.tuple #[.int .u64 0, .int .i64 1]) ∧ Kp w w' := by
  have t : ((n : Int) != (m : Int)) = true := by simp; omega
  clear h
  go_enter Tryz.func14, Tryz.ntmps14
  go_wp2
  exact bodyPost_ret (v := .tuple #[.int .u64 0, .int .i64 1]) (by simp [results, Tryz.results14, go_sem]) rfl ⟨rfl, (by repeat (with_reducible (first | assumption | exact Kp.refl _ | apply Kp.drew | apply Kp.alloc | apply Kp.drewN | (refine Kp.setCell ?_ (by first | omega | (simp <;> omega)) _) | (refine Kp.trans ?_ (by assumption)))))⟩
set_option maxRecDepth 20000 in
set_option maxHeartbeats 400000 in
theorem bitsNaN4_ (X : Nat) (h : (FloatKind.f64.format.order X X != some .eq) = true) (w : World) : Calls Tryz.prog 23 #[.float .f64 X] w fun e w' => e = .returned (.int .u64 (9221120237041090561 : Int)) ∧ w' = w := by
  go_enter Tryz.func23, Tryz.ntmps23
  go_wp2
  exact bodyPost_ret (v := .int .u64 9221120237041090561) (by simp [results, Tryz.results23, go_sem]) rfl ⟨rfl, rfl⟩
theorem lo0 : (FloatKind.f64.format.order 0 0 != some .eq) = false := by decide +kernel
theorem loI : (FloatKind.f64.format.order 9218868437227405312 9218868437227405312 != some .eq) = false := by decide +kernel
theorem loM : (FloatKind.f64.format.order 18442240474082181120 18442240474082181120 != some .eq) = false := by decide +kernel
theorem loN : (FloatKind.f64.format.order 9221120237041090561 9221120237041090561 != some .eq) = true := by decide +kernel
theorem ordfma4 (d V : Int) : (FloatKind.f64.format.order (fmaW d V) (fmaW d V) != some .eq) = false := by
  unfold fmaW
  by_cases c : V = 0
  · rw [if_pos c]; exact lo0
  · rw [if_neg c]; exact ordselfD _ _ (fin_leD _ _)
theorem bitsR4_ (d V s : Int) (w : World) : Calls Tryz.prog 23 #[.float .f64 (rdW d V s)] w fun e w' => e = .returned (.int .u64 ((rdW d V s : Nat) : Int)) ∧ w' = w := by
  unfold rdW
  by_cases c : s = 0
  · rw [if_pos c]; exact bits4_ _ (ordfma4 d V) w
  · rw [if_neg c]
    unfold limW
    by_cases c2 : s = 2
    · rw [if_pos c2]; exact bitsNaN4_ _ loN w
    · rw [if_neg c2]
      by_cases c3 : 0 ≤ s
      · rw [if_pos c3]; exact bits4_ _ loI w
      · rw [if_neg c3]; exact bits4_ _ loM w
def lS (k : Nat) (xs : List Nat) : Int := if k = 0 then sumS xs else if k = 1 then sumS (xs.map aP) else dotS xs xs
def dtW (d : Int) (xs ys : List Nat) : Nat := if xs.length = ys.length then rdW d (dotV xs ys) (dotS xs ys) else 0
def dtE (xs ys : List Nat) : Int := if xs.length = ys.length then 0 else 1
set_option maxRecDepth 20000 in
set_option maxHeartbeats 400000 in
theorem dotE_ (d : Int) (p p2 : Option Addr) (c c2 : Nat) (n m : Nat) (h : n ≠ m) (w : World) : Calls Tryz.prog 39 #[.int .i64 d, .slice p n c, .slice p2 m c2] w fun e w' => e = .returned (.tuple #[.float .f64 0, .int .i64 1]) ∧ Kp w w' := by
  have t : ((n : Int) != (m : Int)) = true := by simp; omega
  clear h
  go_enter Tryz.func39, Tryz.ntmps39
  go_wp2
  exact bodyPost_ret (v := .tuple #[.float .f64 0, .int .i64 1]) (by simp [results, Tryz.results39, go_sem]) rfl ⟨rfl, (by repeat (with_reducible (first | assumption | exact Kp.refl _ | apply Kp.drew | apply Kp.alloc | apply Kp.drewN | (refine Kp.setCell ?_ (by first | omega | (simp <;> omega)) _) | (refine Kp.trans ?_ (by assumption)))))⟩
set_option maxRecDepth 20000 in
set_option maxHeartbeats 400000 in
theorem dotA4_ (d : Int) (hd1 : -9223372036854775808 ≤ d) (hd2 : d < 9223372036854775808) (K : Nat) (hK : K = 1074) (p p2 : Option Addr) (c c2 : Nat) (xs ys : List Nat) (hx : ∀ x ∈ xs, x < 18446744073709551616) (hy : ∀ x ∈ ys, x < 18446744073709551616) (hl : xs.length ≤ 1048576) (w : World) (ha : ArrF w p xs) (ha2 : ArrF w p2 ys) (hT : Tab w) (hQ : Fq.Tab w) : Calls Tryz.prog 15 #[.int .i64 d, .slice p xs.length c, .slice p2 ys.length c2] w fun e w' => e = .returned (.tuple #[.int .u64 ((dtW d xs ys : Nat) : Int), .int .i64 (dtE xs ys)]) ∧ Kp w w' := by
  have h1 : Calls Tryz.prog 39 #[.int .i64 d, .slice p xs.length c, .slice p2 ys.length c2] w fun e w' => e = .returned (.tuple #[.float .f64 (dtW d xs ys), .int .i64 (dtE xs ys)]) ∧ Kp w w' := by
    unfold dtW dtE
    by_cases e : xs.length = ys.length
    · rw [if_pos e, if_pos e]; exact dot_ d hd1 hd2 K hK p p2 c c2 xs ys hx hy hl e w ha ha2 hT hQ
    · rw [if_neg e, if_neg e]; exact dotE_ d p p2 c c2 _ _ e w
  have h2 : ∀ w : World, Calls Tryz.prog 23 #[.float .f64 (dtW d xs ys)] w fun e w' => e = .returned (.int .u64 ((dtW d xs ys : Nat) : Int)) ∧ w' = w := by
    unfold dtW
    by_cases e : xs.length = ys.length
    · rw [if_pos e]; exact bitsR4_ _ _ _
    · rw [if_neg e]; exact bits4_ 0 lo0
  generalize dtW d xs ys = R at *
  generalize dtE xs ys = E at *
  generalize xs.length = N at *
  generalize ys.length = M at *
  clear hx hy ha ha2 hT hQ hK hd1 hd2
  go_enter Tryz.func15, Tryz.ntmps15
  go_wp2_with (first | (go_at_call 39; refine h1.mono ?_; rintro e w1 ⟨rfl, g1⟩) | (go_at_call 23; refine (h2 _).mono ?_; rintro e w' ⟨rfl, hw'⟩; obtain rfl := hw'.symm; clear hw'))
  exact bodyPost_ret (v := .tuple #[.int .u64 (R : Int), .int .i64 E]) (by simp [results, Tryz.results15, go_sem]) rfl ⟨rfl, g1⟩
theorem rdotA4_ (d : Int) (K : Nat) (hK : K = 1074) (p p2 : Option Addr) (c c2 : Nat) (xs ys : List Nat) (hx : ∀ x ∈ xs, x < 18446744073709551616) (hy : ∀ x ∈ ys, x < 18446744073709551616) (hl : xs.length ≤ 1048576) (w : World) (ha : ArrU w p xs) (ha2 : ArrU w p2 ys) : Calls Tryz.prog 14 #[.int .i64 d, .slice p xs.length c, .slice p2 ys.length c2] w fun e w' => e = .returned (.tuple #[.int .u64 ((dtW d xs ys : Nat) : Int), .int .i64 (dtE xs ys)]) ∧ Kp w w' := by
  unfold dtW dtE
  by_cases e : xs.length = ys.length
  · rw [if_pos e, if_pos e]; exact rdot4_ d K hK p p2 c c2 xs ys hx hy hl e w ha ha2
  · rw [if_neg e, if_neg e]; exact rdotE4_ d p p2 c c2 _ _ e w
set_option maxRecDepth 20000 in
set_option maxHeartbeats 4000000 in
theorem tdots_ (d : Int) (hd1 : -9223372036854775808 ≤ d) (hd2 : d < 9223372036854775808) (K : Nat) (hK : K = 1074) (p p2 : Option Addr) (c c2 : Nat) (xs ys : List Nat) (hx : ∀ x ∈ xs, x < 18446744073709551616) (hy : ∀ x ∈ ys, x < 18446744073709551616) (hl : xs.length ≤ 1048576) (hl2 : ys.length ≤ 1048576) (w : World) (ha : ArrU w p xs) (ha2 : ArrU w p2 ys) (hT : Tab w) (hQ : Fq.Tab w) : Calls Tryz.prog 4 #[.int .i64 d, .slice p xs.length c, .slice p2 ys.length c2] w fun e w' => e = .returned (.bool true) ∧ Kp w w' := by
  have hov := othL_lt xs hx
  have hol := othL_len xs
  have hrv := fun (W : World) (g0 : Nat) (c0 : Nat) (h : ArrU W (some ⟨g0, 0, none⟩) (othL xs)) (h2 : ArrU W p2 ys) => rdotA4_ d K hK (some ⟨g0, 0, none⟩) p2 c0 c2 (othL xs) ys hov hy (by rw [hol]; exact hl) W h h2
  have hpv := fun (W : World) (g1 g0 : Nat) (hne : g0 ≠ g1) (h : RwF W g1 (xs.length + 40) (xs ++ gdf)) (h2 : ArrU W (some ⟨g0, 0, none⟩) (othL xs)) => place4_ g1 (xs.length + 40) xs.length (some ⟨g0, 0, none⟩) xs (othL xs) gdf W h hol.symm (by rw [gdf_len]) h2 (fun b off hb _ => by simp at hb; omega) hl
  have hpa := fun (W : World) (g1 : Nat) (hz : w.heap.size ≤ g1) (h : RwF W g1 (xs.length + 40) (othL xs ++ gdf)) (h2 : ArrU W p xs) => place4_ g1 (xs.length + 40) c p (othL xs) xs gdf W h hol (by rw [gdf_len, hol]) h2 (arr_ne ha g1 hz) (by rw [hol]; exact hl)
  have hdv := fun (W : World) (g1 g2 : Nat) (h : RwF W g1 (xs.length + 40) (othL xs ++ gdf)) (h2 : ArrF W (some ⟨g2, 0, none⟩) ys) (hT : Tab W) (hQ : Fq.Tab W) => dotA4_ d hd1 hd2 K hK (some ⟨g1, 0, none⟩) (some ⟨g2, 0, none⟩) (xs.length + 40) (ys.length + 40) (othL xs) ys hov hy (by rw [hol]; exact hl) W (h.front (by rw [hol]; omega)) h2 hT hQ
  have hlv := fun (W : World) (g1 g0 : Nat) (h : RwF W g1 (xs.length + 40) (othL xs ++ gdf)) (h2 : ArrU W (some ⟨g0, 0, none⟩) (othL xs)) => left4_ (some ⟨g0, 0, none⟩) xs.length g1 (othL xs) W h2 (by rw [hol]; exact h) (by rw [hol]; exact hl)
  have hE : dtE (othL xs) ys = dtE xs ys := by unfold dtE; rw [hol]
  rw [hE] at hrv hdv
  rw [hol] at hrv hpv hpa hdv hlv
  have hk : Kp w w := Kp.refl w
  go_enter Tryz.func4, Tryz.ntmps4
  go_wp2_with fail
  refine (other4_ p c xs _ (ha.kp hk) hx hl).mono ?_
  rintro e v1 ⟨g0, rfl, hg0, r0, g⟩
  have hz0 : w.heap.size ≤ g0 := Nat.le_trans hk.size hg0
  replace hk := hk.trans g
  clear g hg0
  go_wp2_with fail
  refine (rdotA4_ d K hK p p2 c c2 xs ys hx hy hl _ (ha.kp hk) (ha2.kp hk)).mono ?_
  rintro e v2 ⟨rfl, g⟩
  replace r0 := r0.kp g
  replace hk := hk.trans g
  clear g
  go_wp2_with fail
  refine (hrv _ _ _ (r0.all (by rw [othL_len]; exact Nat.le_refl _)) (ha2.kp hk)).mono ?_
  rintro e v2 ⟨rfl, g⟩
  replace r0 := r0.kp g
  replace hk := hk.trans g
  clear g
  go_wp2_with fail
  refine (roomy4_ p c xs _ (ha.kp hk) hl).mono ?_
  rintro e v2 ⟨g1, rfl, hg1, r1, g⟩
  have hz1 : w.heap.size ≤ g1 := Nat.le_trans hk.size hg1
  have n01 : g0 ≠ g1 := by have := World.rowIs.lt r0; omega
  replace r0 := r0.kp g
  replace hk := hk.trans g
  clear g hg1
  go_wp2_with fail
  refine (roomy4_ p2 c2 ys _ (ha2.kp hk) hl2).mono ?_
  rintro e v2 ⟨g2, rfl, hg2, r2, g⟩
  have n12 : g2 ≠ g1 := by have := World.rowIs.lt r1; omega
  replace r0 := r0.kp g
  replace r1 := r1.kp g
  replace hk := hk.trans g
  clear g hg2
  go_wp2_with fail
  refine (dotA4_ d hd1 hd2 K hK (some ⟨g1, 0, none⟩) (some ⟨g2, 0, none⟩) (xs.length + 40) (ys.length + 40) xs ys hx hy hl _ (r1.front (by omega)) (r2.front (by omega)) (hT.grown hk) (Fq.Tab.grown hQ hk)).mono ?_
  rintro e v2 ⟨rfl, g⟩
  replace r0 := r0.kp g
  replace r1 := r1.kp g
  replace r2 := r2.kp g
  replace hk := hk.trans g
  clear g
  go_wp2_with fail
  refine (dotA4_ d hd1 hd2 K hK (some ⟨g1, 0, none⟩) (some ⟨g2, 0, none⟩) (xs.length + 40) (ys.length + 40) xs ys hx hy hl _ (r1.front (by omega)) (r2.front (by omega)) (hT.grown hk) (Fq.Tab.grown hQ hk)).mono ?_
  rintro e v2 ⟨rfl, g⟩
  replace r0 := r0.kp g
  replace r1 := r1.kp g
  replace r2 := r2.kp g
  replace hk := hk.trans g
  clear g
  go_wp2_with fail
  refine (left4_ p c g1 xs _ (ha.kp hk) r1 hl).mono ?_
  rintro e v2 ⟨rfl, g⟩
  replace r0 := r0.kp g
  replace r1 := r1.kp g
  replace r2 := r2.kp g
  replace hk := hk.trans g
  clear g
  go_wp2_with fail
  refine (left4_ p2 c2 g2 ys _ (ha2.kp hk) r2 hl2).mono ?_
  rintro e v2 ⟨rfl, g⟩
  replace r0 := r0.kp g
  replace r1 := r1.kp g
  replace r2 := r2.kp g
  replace hk := hk.trans g
  clear g
  go_wp2_with fail
  refine (hpv _ _ _ n01 r1 (r0.all (by rw [othL_len]; exact Nat.le_refl _))).mono ?_
  rintro e v2 ⟨v3, rfl, s1, kb⟩
  replace r0 := r0.kb kb n01
  replace r2 := r2.kb kb n12
  replace hk := kb.kp hk hz1
  clear kb r1
  have r1 := s1
  clear s1
  go_wp2_with fail
  refine (hdv _ _ _ r1 (r2.front (by omega)) (hT.grown hk) (Fq.Tab.grown hQ hk)).mono ?_
  rintro e v2 ⟨rfl, g⟩
  replace r0 := r0.kp g
  replace r1 := r1.kp g
  replace r2 := r2.kp g
  replace hk := hk.trans g
  clear g
  go_wp2_with fail
  refine (hlv _ _ _ r1 (r0.all (by rw [othL_len]; exact Nat.le_refl _))).mono ?_
  rintro e v2 ⟨rfl, g⟩
  replace r0 := r0.kp g
  replace r1 := r1.kp g
  replace r2 := r2.kp g
  replace hk := hk.trans g
  clear g
  go_wp2_with fail
  refine (hpa _ _ hz1 r1 (ha.kp hk)).mono ?_
  rintro e v2 ⟨v3, rfl, s1, kb⟩
  replace r0 := r0.kb kb n01
  replace r2 := r2.kb kb n12
  replace hk := kb.kp hk hz1
  clear kb r1
  have r1 := s1
  clear s1
  go_wp2_with fail
  refine (rdotA4_ d K hK p p c c xs xs hx hx hl _ (ha.kp hk) (ha.kp hk)).mono ?_
  rintro e v2 ⟨rfl, g⟩
  replace r0 := r0.kp g
  replace r1 := r1.kp g
  replace r2 := r2.kp g
  replace hk := hk.trans g
  clear g
  go_wp2_with fail
  refine (dotA4_ d hd1 hd2 K hK (some ⟨g1, 0, none⟩) (some ⟨g1, 0, none⟩) (xs.length + 40) (xs.length + 40) xs xs hx hx hl _ (r1.front (by omega)) (r1.front (by omega)) (hT.grown hk) (Fq.Tab.grown hQ hk)).mono ?_
  rintro e v2 ⟨rfl, g⟩
  replace r0 := r0.kp g
  replace r1 := r1.kp g
  replace r2 := r2.kp g
  replace hk := hk.trans g
  clear g
  go_wp2_with fail
  refine (left4_ p c g1 xs _ (ha.kp hk) r1 hl).mono ?_
  rintro e v2 ⟨rfl, g⟩
  replace r0 := r0.kp g
  replace r1 := r1.kp g
  replace r2 := r2.kp g
  replace hk := hk.trans g
  clear g
  go_wp2_with fail
  refine (dotA4_ d hd1 hd2 K hK (some ⟨g1, 0, none⟩) (some ⟨g2, 0, none⟩) (xs.length + 40) (ys.length + 40) xs ys hx hy hl _ (r1.front (by omega)) (r2.front (by omega)) (hT.grown hk) (Fq.Tab.grown hQ hk)).mono ?_
  rintro e v2 ⟨rfl, g⟩
  replace r0 := r0.kp g
  replace r1 := r1.kp g
  replace r2 := r2.kp g
  replace hk := hk.trans g
  clear g
  go_wp2_with fail
  refine (left4_ p c g1 xs _ (ha.kp hk) r1 hl).mono ?_
  rintro e v2 ⟨rfl, g⟩
  replace r0 := r0.kp g
  replace r1 := r1.kp g
  replace r2 := r2.kp g
  replace hk := hk.trans g
  clear g
  go_wp2_with fail
  refine (left4_ p2 c2 g2 ys _ (ha2.kp hk) r2 hl2).mono ?_
  rintro e v2 ⟨rfl, g⟩
  replace r0 := r0.kp g
  replace r1 := r1.kp g
  replace r2 := r2.kp g
  replace hk := hk.trans g
  clear g
  go_wp2_with fail
  refine (lives_ _ (hT.grown hk) (Fq.Tab.grown hQ hk)).mono ?_
  rintro e v2 ⟨rfl, g⟩
  replace hk := hk.trans g
  clear g
  go_wp2
  exact bodyPost_ret (v := .bool true) (by simp [results, Tryz.results4, go_sem]) rfl ⟨rfl, hk⟩
end Go.Proofs.YtokhnokobkmmkaaGreatDoor
