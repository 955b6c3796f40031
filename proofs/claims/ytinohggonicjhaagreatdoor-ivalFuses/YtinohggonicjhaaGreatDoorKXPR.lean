import Derived.Test.YtinohggonicjhaaGreatDoorKLN
import Derived.Deep.RegionHeld3
import Derived.Laws.Slices
namespace Go.Proofs.YtinohggonicjhaaGreatDoor
open Go.RowKit
theorem Kb.kp2 {g : Nat} {w w' w'' : World} (h : Kb g w w') (k : Kp w' w'') : Kb g w w'' :=
  ⟨k.os.trans h.1, k.tape.trans h.2.1, k.output.trans h.2.2.1, Nat.le_trans h.2.2.2.1 k.size, fun i hi hne => (Below.block k i (Nat.lt_of_lt_of_le hi h.2.2.2.1)).trans (h.2.2.2.2 i hi hne)⟩
set_option maxRecDepth 20000 in
set_option maxHeartbeats 1000000 in
theorem addTimes_ (g n i c1 d X : Nat) (q : Option Addr) (zs ys : List Int) (w : World) (hr : Rw w g n zs) (hzl : zs.length = n) (hwz : Wd zs) (hy : Arr w q ys) (hwy : Wd ys) (hX : X < 4294967296) (hq : 0 < ys.length → ∀ b off, q = some ⟨b, off, none⟩ → b ≠ g) (hin : i + ys.length ≤ n) (hn : n ≤ 1099511627776) (hcc : ys.length ≤ c1) :
    Calls Tryz.prog 163 #[.slice (some ⟨g, i, none⟩) ys.length c1, .slice q ys.length d, .int .u32 (X : Int)] w fun e w' => ∃ (C : Nat) (us : List Int), e = .returned (.int .u32 (C : Int)) ∧ Rw w' g n us ∧ us.length = n ∧ Wd us ∧ C < 4294967296 ∧ val us + C * 4294967296 ^ (i + ys.length) = val zs + val ys * X * 4294967296 ^ i ∧ (∀ j, i + ys.length ≤ j → us.getD j 0 = zs.getD j 0) ∧ Kb g w w' := by
  obtain ⟨M, hM⟩ : ∃ M, M = ys.length := ⟨_, rfl⟩
  rw [← hM] at hin hcc ⊢
  have HY : Hid (Arr w q ys ∧ (0 < ys.length → ∀ b off, q = some ⟨b, off, none⟩ → b ≠ g)) := ⟨hy, hq⟩
  have HW : Hid (Wd ys ∧ M = ys.length) := ⟨hwy, hM⟩
  have HZ : Hid (Rw w g n zs ∧ zs.length = n ∧ Wd zs) := ⟨hr, hzl, hwz⟩
  have hX2 : IntKind.u64.wrap (X : Int) = (X : Int) := by rw [IntKind.wrap_u64]; omega
  clear hy hq hwy hM hr hzl hwz
  go_enter Tryz.func163, Tryz.ntmps163
  go_wp2
  go_loopw [7, 11] (fun cc ii wr => ∃ (k C : Nat) (us : List Int), cc = .int .u64 (C : Int) ∧ ii = .int .i64 k ∧ k ≤ M ∧ Rw wr g n us ∧ us.length = n ∧ Wd us ∧ C < 4294967296 ∧ val us + C * 4294967296 ^ (i + k) = val zs + val (ys.take k) * X * 4294967296 ^ i ∧ (∀ j, i + k ≤ j → us.getD j 0 = zs.getD j 0) ∧ Kb g w wr) (fun _ i _ => M - (intOf i).toNat)
  case atStart => exact ⟨0, 0, zs, rfl, rfl, Nat.zero_le _, HZ.out.1, HZ.out.2.1, HZ.out.2.2, by omega, by simp [val], fun j _ => rfl, Kb.refl _ _⟩
  case round =>
    obtain ⟨k, C, us, rfl, rfl, hk, hrow, hul, hwu, hC, hv, hsam, hkb⟩ := hrel
    obtain ⟨hwy, hM⟩ := HW.out
    by_cases ck : k < M
    · obtain ⟨b', off', rfl, hc'⟩ := HY.out.1.at (k := k) (by omega)
      have hbg := HY.out.2 (by omega) b' off' rfl
      have e2 := hkb.arr hbg (hc' k (by omega))
      have e1 := World.rowIs.cell hrow (i := i + k) (by omega)
      have wy := hwy k
      have wz := hwu (i + k)
      obtain ⟨Y, hY⟩ : ∃ Y : Nat, (Y : Int) = ys.getD k 0 := ⟨(ys.getD k 0).toNat, by omega⟩
      obtain ⟨Z0, hZ0⟩ : ∃ Z0 : Nat, (Z0 : Int) = us.getD (i + k) 0 := ⟨(us.getD (i + k) 0).toNat, by omega⟩
      rw [← hY] at e2
      rw [← hZ0] at e1
      have hmw := mul_word Y X C Z0 (by omega) hX hC (by omega)
      obtain ⟨P, hP⟩ : ∃ P, P = Y * X := ⟨_, rfl⟩
      rw [← hP] at hmw
      obtain ⟨S, hS⟩ : ∃ S : Nat, S = (Z0 : Int).toNat + ((P : Nat) : Int).toNat + C := ⟨_, rfl⟩
      have hst := sum_step us (i + k) C S _ (Z0 : Int) (P : Int) (by omega) hZ0.symm hS hv
      simp only [Int.toNat_natCast] at hS hst
      have hg2 := mul_grow ys X i k
      rw [← hY, Int.toNat_natCast, ← hP] at hg2
      rw [Nat.add_assoc (val zs), ← hg2, Nat.add_assoc i k 1] at hst
      have f1 : IntKind.u64.wrap (Y : Int) = (Y : Int) := by rw [IntKind.wrap_u64]; omega
      have f2 : IntKind.u64.wrap ((Y : Int) * (X : Int)) = (P : Int) := by
        have : (Y : Int) * (X : Int) = (P : Int) := by rw [hP]; exact (Int.natCast_mul Y X).symm
        rw [this, IntKind.wrap_u64]; omega
      have f3 : IntKind.u64.wrap (Z0 : Int) = (Z0 : Int) := by rw [IntKind.wrap_u64]; omega
      have f4 : IntKind.u64.wrap ((P : Int) + (Z0 : Int)) = (P : Int) + (Z0 : Int) := by rw [IntKind.wrap_u64]; omega
      have f5 : IntKind.u64.wrap ((C : Int) + ((P : Int) + (Z0 : Int))) = (S : Int) := by rw [IntKind.wrap_u64]; omega
      obtain ⟨Z, hZ⟩ : ∃ Z : Nat, Z = S % 4294967296 := ⟨_, rfl⟩
      obtain ⟨C', hC2⟩ : ∃ C' : Nat, C' = S / 4294967296 := ⟨_, rfl⟩
      have f6 : IntKind.u32.wrap (S : Int) = (Z : Int) := by rw [IntKind.wrap_u32]; omega
      have f7 : (S : Int) / 4294967296 = (C' : Int) := by omega
      rw [← hZ, ← hC2] at hst
      have hC' : C' < 4294967296 := by omega
      have hw2 : Wd (us.set (i + k) (Z : Int)) := hwu.set (i + k) Z (by omega)
      have hl2 : (us.set (i + k) (Z : Int)).length = n := by rw [List.length_set]; exact hul
      have hsam2 : ∀ j, i + (k + 1) ≤ j → (us.set (i + k) (Z : Int)).getD j 0 = zs.getD j 0 := fun j h1 => by
        rw [← hsam j (by omega)]; simp [List.getD, show ¬ i + k = j from by omega]
      have hik : i + k < us.length := by omega
      have i0 : (0 : Int) ≤ (k : Int) := by omega
      have i1 : (k : Int) < (M : Int) := by omega
      clear hc' HY HW HZ hwy hM hY hZ0 hZ hC2 hS hv hP hg2 wy wz hwu hC hsam hul hmw
      go_wp2
      refine wp_region_kp (by kernel_rfl) (by kernel_rfl) (fun ι _ G hG hall => ?_)
      have c0 : ∀ n, (G n).cell? ⟨g, i + k, none⟩ = some (.int .u32 (Z0 : Int)) := fun n => kkeep (hG n) e1
      have c1 : ∀ n, (G n).cell? ⟨b', off' + k, none⟩ = some (.int .u32 (Y : Int)) := fun n => kkeep (hG n) e2
      repeat (go_big_quiet_step (fail))
      refine wpQuiet_nil ?_
      rintro _ ⟨nq, rfl⟩
      have gq := hG nq
      replace hrow := hrow.grown gq
      have e3 := World.rowIs.cell hrow (i := i + k) (by have := hrow; omega)
      have e4 := World.rowIs.frozen hrow (i + k)
      have hR := hrow.set (i + k) (Z : Int) hik
      have hK := (hkb.kp2 gq).setCell (i + k) (.int .u32 (Z : Int))
      clear c0 c1 hall hG gq e1 e2 hrow hkb
      go_wp2
      exact ⟨⟨k + 1, C', us.set (i + k) (Z : Int), rfl, by go_num, by omega, hR, hl2, hw2, hC', hst, hsam2, hK⟩, by simp [intOf]; omega⟩
    · have hkM : k = M := by omega
      subst hkM
      rw [hM, List.take_length, ← hM] at hv
      have i2 : ¬ ((k : Int) < (k : Int)) := by omega
      have f6 : IntKind.u32.wrap (C : Int) = (C : Int) := by rw [IntKind.wrap_u32]; omega
      clear HY HW HZ hwy hM hk ck
      go_wp2
      exact bodyPost_ret (v := .int .u32 (C : Int)) (by simp [results, Tryz.results163, go_sem] <;> simp only [*]) rfl ⟨C, rfl, us, hrow, hul, hwu, hC, hv, hsam, hkb⟩
set_option maxRecDepth 20000 in
theorem sl32 (g k M n : Nat) (h : k + M ≤ n) (hk : k < n) (w : World) : (Instr.slice 46 (.slice (some ⟨g, 0, none⟩) n n) (some (.int .i64 (k : Int))) (some (.int .i64 ((k : Int) + (M : Int)))) none).run Tryz.prog w = .ok (.slice (some ⟨g, k, none⟩) M (n - k)) w := by
  rw [run_slice_lh w 46 (some ⟨g, 0, none⟩) n n Tryz.underlying46 .i64 .i64 (k : Int) ((k : Int) + (M : Int)) (by omega) (by omega) (by omega)]
  have e : (sizeOf (Tryz.prog.elem 46)).run Tryz.prog w = .ok 1 w := by kernel_rfl
  have e2 : ((k : Int) + (M : Int)).toNat - k = M := by omega
  have e3 : ¬ n = k := by omega
  rw [e]
  simp [Result.andThen, sliced, e2, e3, Addr.add_lit]
theorem val_zeros (zs : List Int) (h : ∀ j, zs.getD j 0 = 0) : val zs = 0 := by
  induction zs with
  | nil => rfl
  | cons z r ih =>
    have h0 := h 0
    simp at h0
    have := ih (fun j => by have := h (j + 1); simpa using this)
    simp [val, h0, this]
theorem Wd_rep0 (n : Nat) : Wd (List.replicate n (0 : Int)) := by
  intro j
  by_cases c : j < n
  · simp [List.getD, c]
  · simp [List.getD, c]
theorem rep0_getD (n j : Nat) : (List.replicate n (0 : Int)).getD j 0 = 0 := by
  by_cases c : j < n
  · simp [List.getD, c]
  · simp [List.getD, c]
set_option maxRecDepth 20000 in
set_option maxHeartbeats 1000000 in
theorem product_ (p q : Option Addr) (c d : Nat) (xs ys : List Int) (w : World) (hx : Arr w p xs) (hy : Arr w q ys) (hwx : Wd xs) (hwy : Wd ys) (lx : xs.length ≤ 16777216) (ly : ys.length ≤ 16777216) :
    Calls Tryz.prog 142 #[.slice p xs.length c, .slice q ys.length d] w fun e w' => ∃ v, e = .returned v ∧ Own w' w.heap.size v (dig (val xs * val ys)) ∧ Kp w w' := by
  obtain ⟨N, hN⟩ : ∃ N, N = xs.length := ⟨_, rfl⟩
  obtain ⟨M, hM⟩ : ∃ M, M = ys.length := ⟨_, rfl⟩
  obtain ⟨L, hL⟩ : ∃ L, L = N + M := ⟨_, rfl⟩
  have hmk : ∀ w : World, (Instr.makeSlice 46 (.int .i64 ((N : Int) + (M : Int))) (.int .i64 ((N : Int) + (M : Int)))).run Tryz.prog w = .ok (.slice (some ⟨w.heap.size, 0, none⟩) L L) (w.alloc (.cells (madeCells #[.int .u32 0] L) 107)) := by
    have := mk32 L (by omega)
    have e : ((L : Nat) : Int) = (N : Int) + (M : Int) := by omega
    rw [e] at this
    exact this
  have hk1 : Kp w (w.alloc (.cells (madeCells #[.int .u32 0] L) 107)) := (Kp.refl w).alloc _
  have hrz : Rw (w.alloc (.cells (madeCells #[.int .u32 0] L) 107)) w.heap.size L (List.replicate L 0) := World.rowIs.congr (World.rowIs_made w (.int .u32 0) L 107) (fun j _ => by rw [rep0_getD])
  obtain ⟨zs0, hz0⟩ : ∃ zs0, zs0 = List.replicate L (0 : Int) := ⟨_, rfl⟩
  have hzl0 : zs0.length = L := by rw [hz0]; simp
  have hwz0 : Wd zs0 := by rw [hz0]; exact Wd_rep0 _
  have hzz0 : ∀ j, zs0.getD j 0 = 0 := fun j => by rw [hz0]; exact rep0_getD _ _
  have hvz0 := val_zeros zs0 hzz0
  rw [← hz0] at hrz
  have HX : Hid (Arr w p xs ∧ Wd xs) := ⟨hx, hwx⟩
  have HY : Hid (Arr w q ys ∧ Wd ys) := ⟨hy, hwy⟩
  have HN : Hid (N = xs.length ∧ M = ys.length ∧ N ≤ 16777216 ∧ M ≤ 16777216) := ⟨hN, hM, by omega, by omega⟩
  obtain ⟨g, hg⟩ : ∃ g, g = w.heap.size := ⟨_, rfl⟩
  rw [← hg] at hrz
  have HG : Hid (g = w.heap.size) := hg
  have lN : N ≤ 16777216 := by omega
  have lM : M ≤ 16777216 := by omega
  rw [← hN, ← hM]
  have hLN : L = N + M := hL
  clear hx hy hwx hwy lx ly hN hM hz0 hL
  have HL : Hid (L = N + M) := hLN
  clear hLN
  go_enter Tryz.func142, Tryz.ntmps142
  go_wp2
  rw [← hg]
  clear hmk hg
  go_loopw [15] (fun i wr => ∃ (k : Nat) (zs : List Int), i = .int .i64 k ∧ k ≤ N ∧ Rw wr g L zs ∧ zs.length = L ∧ Wd zs ∧ val zs = val (xs.take k) * val ys ∧ (∀ j, k + M ≤ j → zs.getD j 0 = 0) ∧ Kp w wr) (fun i _ => N - (intOf i).toNat)
  case atStart => exact ⟨0, zs0, rfl, Nat.zero_le _, hrz, hzl0, hwz0, by rw [hvz0]; simp [val], fun j _ => hzz0 j, hk1⟩
  case round =>
    clear hrz hzl0 hwz0 hzz0 hvz0 hk1
    obtain ⟨k, zs, rfl, hk, hrow, hzl, hwz, hv, hzz, hkp⟩ := hrel
    obtain ⟨hN, hM, hn1, hm1⟩ := HN.out
    clear hn1 hm1
    have hLe := HL.out
    by_cases ck : k < N
    · obtain ⟨b, off, rfl, hc⟩ := HX.out.1.at (k := k) (by omega)
      have e0 := hc k (by omega)
      have e1 := kkeep hkp e0
      have hbg : b ≠ g := by have := cell_lt e0; have := HG.out; omega
      have wx := HX.out.2 k
      have hrp := row_prod xs k (val ys)
      obtain ⟨X, hX⟩ : ∃ X : Nat, (X : Int) = xs.getD k 0 := ⟨(xs.getD k 0).toNat, by omega⟩
      rw [← hX] at e1 wx hrp
      rw [Int.toNat_natCast] at hrp
      have i0 : (0 : Int) ≤ (k : Int) := by omega
      have i1 : (k : Int) < (N : Int) := by omega
      by_cases cX : X = 0
      · subst cX
        have hv2 : val zs = val (xs.take (k + 1)) * val ys := by rw [← hrp, hv]; simp
        have t1 : (((0 : Nat) : Int) != 0) = false := by simp
        clear hc e0 HX HY HN HG hN hM hX wx hrp hbg hv HL hLe
        go_wp2
        exact ⟨⟨k + 1, zs, by go_num, by omega, hrow, hzl, hwz, hv2, fun j hj => hzz j (by omega), hkp⟩, by simp [intOf]; omega⟩
      · have t1 : ((X : Int) != 0) = true := by simp; omega
        have hgw : w.heap.size ≤ g := by rw [HG.out]; exact Nat.le_refl _
        have hM0 : 0 < ys.length → ∀ b' off', q = some ⟨b', off', none⟩ → b' ≠ g := fun h0 b' off' e => by
          obtain ⟨b2, o2, h1, h2⟩ := HY.out.1.at (k := 0) h0
          rw [h1] at e
          cases e
          have := cell_lt (h2 0 h0)
          have := HG.out
          omega
        have had := fun w' (h : Kp wr w') => addTimes_ g L k (L - k) d X q zs ys w' (hrow.grown h) hzl hwz (HY.out.1.grown (hkp.trans h)) HY.out.2 (by omega) hM0 (by omega) (by omega) (by omega)
        rw [← hM, hv, hrp] at had
        obtain ⟨E, hE⟩ : ∃ E, E = k + M := ⟨_, rfl⟩
        have fE : (k : Int) + (M : Int) = (E : Int) := by omega
        have i2 : (k : Int) ≤ (E : Int) := by omega
        have i3 : (E : Int) ≤ (L : Int) := by omega
        have i4 : (E : Int) < (L : Int) := by omega
        have i5 : (0 : Int) ≤ (E : Int) := by omega
        have i7 : ¬ (L = k) := by omega
        have i8 : E - k = M := by omega
        have hsl : ∀ w : World, (Instr.slice 46 (.slice (some ⟨g, 0, none⟩) L L) (some (.int .i64 (k : Int))) (some (.int .i64 (E : Int))) none).run Tryz.prog w = .ok (.slice (some ⟨g, k, none⟩) M (L - k)) w := by
          rw [← fE]; exact sl32 g k M L (by omega) (by omega)
        rw [← hE] at had
        have hz0 := hzz E (by omega)
        have hkM : E < L := by omega
        have hE9 : (E : Int) < 9223372036854775808 := by omega
        have fE1 := w64 (E : Int) i5 hE9
        have fE2 := wi64 (E : Int) i5 hE9
        have HE : Hid (E = k + M) := hE
        clear hc e0 HX HY HN hN hM hX wx hv hwz hM0 hrp hzl HL hLe hE
        go_wp2
        go_region_held3 (fun w' => w'.cell? ⟨b, off + k, none⟩ = some (.int .u32 (X : Int))) (first | (exact e1) | (exact hkb2.arr hbg e1) | (exact (World.cell?_setCell_far _ _ _ _ (Ne.symm hbg)).trans (hkb2.arr hbg e1))) (first | (go_at_call 163; refine (had _ (Kp.refl _).drew).mono ?_; rintro e w2 ⟨C, us, rfl, hR2, hl2, hw2, hC, hv2, hs2, hkb2⟩; have e3 := World.rowIs.cell hR2 (i := E) hkM; have e4 := World.rowIs.frozen hR2 E))
        clear fE1 fE2 fE hE9 i5 i7 i8 hsl had
        have hE := HE.out
        have hu0 : us.getD E 0 = 0 := by rw [hs2 _ (Nat.le_refl _)]; exact hz0
        have hvs := val_set us E (C : Int) (by omega)
        rw [hu0, Int.toNat_natCast, hv2] at hvs
        have hv3 : val (us.set E (C : Int)) = val (xs.take (k + 1)) * val ys := by simpa using hvs
        have hR := hR2.set E (C : Int) (by omega)
        have hK : Kp w (w2.setCell ⟨g, E, none⟩ (.int .u32 (C : Int))) := (hkb2.kp (hkp.drew) hgw).setCell hgw _
        have hw3 : Wd (us.set E (C : Int)) := hw2.set _ _ (by omega)
        have hl3 : (us.set E (C : Int)).length = L := by rw [List.length_set]; exact hl2
        have hz3 : ∀ j, k + 1 + M ≤ j → (us.set E (C : Int)).getD j 0 = 0 := fun j hj => by
          have e1 : (us.set E (C : Int)).getD j 0 = us.getD j 0 := by simp [List.getD, show ¬ E = j from by omega]
          rw [e1, hs2 j (by omega)]
          exact hzz j (by omega)
        clear HE hE e1 e3 e4 hv2 hvs hs2 hzz hkb2 hR2 hkp hrow
        go_wp2
        exact ⟨⟨k + 1, us.set E (C : Int), by go_num, by omega, hR, hl3, hw3, hv3, hz3, hK⟩, by simp [intOf]; omega⟩
    · have hkN : k = N := by omega
      subst hkN
      rw [hN, List.take_length] at hv
      have hA := hrow.arr L (Nat.le_refl _) (by omega)
      rw [List.take_of_length_le (by omega)] at hA
      have htr := trim_ (some ⟨g, 0, none⟩) L zs wr hA (by omega) (by omega)
      have hO : Own wr w.heap.size (.slice (some ⟨g, 0, none⟩) (tl zs) L) (dig (val xs * val ys)) := by
        have h1 := Own.of_row (base := w.heap.size) (k := tl zs) hrow (by rw [HG.out]; exact Nat.le_refl _) (by have := tl_le zs; omega) hzl (by unfold maxLen; omega)
        have h2 : zs.take (tl zs) = dig (val xs * val ys) := by rw [← hv, ← nz_dig zs hwz]; rfl
        rw [h2] at h1
        exact h1
      rw [hzl] at htr
      obtain ⟨T, hT⟩ : ∃ T, T = tl zs := ⟨_, rfl⟩
      rw [← hT] at htr hO
      have i2 : ¬ ((k : Int) < (k : Int)) := by omega
      clear hA hrow hzl hwz hv hT HX HY HN HG hN hM hzz HL hLe
      go_wp2_with (first | (go_at_call 126; refine htr.mono ?_; rintro e w' ⟨rfl, hw'⟩; obtain rfl := hw'.symm))
      exact bodyPost_ret (v := .slice (some ⟨g, 0, none⟩) T L) (by simp [results, Tryz.results142, go_sem] <;> simp only [*]) rfl ⟨_, rfl, hO, hkp⟩
end Go.Proofs.YtinohggonicjhaaGreatDoor
