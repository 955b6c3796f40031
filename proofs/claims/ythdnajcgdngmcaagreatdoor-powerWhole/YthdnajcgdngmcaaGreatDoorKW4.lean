import Derived.Test.YthdnajcgdngmcaaGreatDoorKLN
import Derived.Test.YthdnajcgdngmcaaGreatDoorKNF
import Derived.Test.YthdnajcgdngmcaaGreatDoorKXN
namespace Go.Proofs.YthdnajcgdngmcaaGreatDoor
open Go.RowKit
set_option maxRecDepth 20000 in
set_option maxHeartbeats 1000000 in
theorem lowest_ (p : Option Addr) (c : Nat) (xs : List Int) (w : World) (hx : Arr w p xs) (hwx : Wd xs) (lx : xs.length ≤ 2) :
    Calls Tryz.prog 199 #[.slice p xs.length c] w fun e w' => e = .returned (.int .u64 (val xs : Nat)) ∧ w' = w := by
  obtain ⟨N, hN⟩ : ∃ N, N = xs.length := ⟨_, rfl⟩
  have HX : Hid (Arr w p xs ∧ Wd xs ∧ N = xs.length) := ⟨hx, hwx, hN⟩
  have hmin : min (N : Int) 2 = (N : Int) := by omega
  have hN2 : N ≤ 2 := by omega
  rw [← hN]
  clear hx hwx lx hN
  go_enter Tryz.func199, Tryz.ntmps199
  go_wp2
  go_loop [3, 8] (fun v i => ∃ k : Nat, i = .int .i64 k ∧ k ≤ N ∧ v = .int .u64 (val (xs.take k) : Nat)) (fun _ i => N - (intOf i).toNat)
  case atStart => exact ⟨0, rfl, Nat.zero_le _, by simp [val]⟩
  case round =>
    obtain ⟨k, rfl, hk, rfl⟩ := hrel
    obtain ⟨hx, hwx, hN⟩ := HX.out
    by_cases ck : k < N
    · obtain ⟨b, off, rfl, hc⟩ := hx.at (k := k) (by omega)
      have e1 := hc k (by omega)
      have wx := hwx k
      have hst := val_take_succ xs k
      have hlt := val_two xs hwx (by omega) (k + 1)
      have hlk := val_take_lt xs hwx k
      obtain ⟨X, hX⟩ : ∃ X : Nat, (X : Int) = xs.getD k 0 := ⟨(xs.getD k 0).toNat, by omega⟩
      rw [← hX] at e1 hst
      rw [Int.toNat_natCast] at hst
      obtain ⟨V, hV⟩ : ∃ V, V = val (xs.take k) := ⟨_, rfl⟩
      obtain ⟨V', hV'⟩ : ∃ V', V' = val (xs.take (k + 1)) := ⟨_, rfl⟩
      rw [← hV] at hst hlk ⊢
      rw [← hV'] at hst hlt
      have HG : Hid (V' = val (xs.take (k + 1))) := hV'
      have f0 : IntKind.u64.wrap (X : Int) = (X : Int) := by rw [IntKind.wrap_u64]; omega
      have i0 : (0 : Int) ≤ (k : Int) := by omega
      have i1 : (k : Int) < (N : Int) := by omega
      have hX32 : X < 4294967296 := by omega
      clear hx hwx hN hc wx hX hV hV' HX
      rcases (by omega : k = 0 ∨ k = 1) with rfl | rfl
      · have hV0 : V = 0 := by simpa using hlk
        subst hV0
        have hX' : V' = X := by simpa using hst
        subst hX'
        have f2 : bits BinOp.or IntKind.u64 0 (V' : Int) = (V' : Int) := by
          have := bits_or_u64_nat 0 V' (by omega) (by omega)
          simpa using this
        rw [Nat.add_zero] at e1
        clear hst hlt hlk
        go_wp2
        exact ⟨⟨1, by go_num, by omega, by rw [← HG.out]⟩, by simp [intOf]; omega⟩
      · have f1 : IntKind.u64.wrap ((X : Int) * 4294967296) = ((X * 4294967296 : Nat) : Int) := by rw [IntKind.wrap_u64]; omega
        have hor := or_low V X 32 (by simpa using hlk)
        have f2 := bits_or_u64_nat V (X * 4294967296) (by omega) (by omega)
        have e2 : V ||| X * 4294967296 = V' := by
          have e3 : V + X * 4294967296 = V' := by omega
          rw [← e3]; exact hor
        rw [e2] at f2
        obtain ⟨Y, hY⟩ : ∃ Y : Nat, Y = X * 4294967296 := ⟨_, rfl⟩
        rw [← hY] at f1 f2
        clear hst hlt hlk hor e2 hY
        go_wp2
        exact ⟨⟨2, by go_num, by omega, by rw [← HG.out]⟩, by simp [intOf]; omega⟩
    · have hkN : k = N := by omega
      subst hkN
      rw [hN, List.take_length]
      obtain ⟨V, hV⟩ : ∃ V, V = val xs := ⟨_, rfl⟩
      rw [← hV]
      have i1 : ¬ ((k : Int) < (k : Int)) := by omega
      have HV : Hid (V = val xs) := hV
      clear HX hx hwx hN hV
      go_wp2
      exact bodyPost_ret (v := .int .u64 (V : Int)) (by simp [results, Tryz.results199, go_sem] <;> simp only [*]) rfl ⟨by rw [HV.out], rfl⟩
set_option maxRecDepth 20000 in
set_option maxHeartbeats 1000000 in
theorem nword_ (p : Option Addr) (c : Nat) (xs : List Int) (w : World) (hx : Arr w p xs) (hwx : Wd xs) (lx : xs.length ≤ 16777216) (hc : xs.length ≤ c) :
    Calls Tryz.prog 184 #[.slice p xs.length c] w fun e w' => e = .returned (.tuple #[.int .u64 ((wordN (val xs)).1 : Nat), .bool (wordN (val xs)).2]) ∧ w' = w := by
  have h1 := trim_ p c xs w hx (by omega) hc
  have e1 := tl_len xs hwx
  have h2 : tl xs ≤ 2 → Calls Tryz.prog 199 #[.slice p (tl xs) c] w fun e w' => e = .returned (.int .u64 (val xs : Nat)) ∧ w' = w := fun h => by
    have := lowest_ p c (nz xs) w (hx.take _) (hwx.take _) (by rw [nz_length]; exact h)
    rw [nz_length, val_nz] at this
    exact this
  obtain ⟨a, ha⟩ : ∃ a, a = val xs := ⟨_, rfl⟩
  obtain ⟨N, hN⟩ : ∃ N, N = xs.length := ⟨_, rfl⟩
  obtain ⟨S, hS⟩ : ∃ S, S = tl xs := ⟨_, rfl⟩
  rw [← ha] at e1 h2 ⊢
  rw [← hN, ← hS] at h1
  rw [← hS] at e1 h2
  rw [← hN]
  clear hx hwx lx hc ha hN hS
  by_cases cs : 2 < S
  · have e2 : wordN a = (0, false) := by unfold wordN; rw [if_pos (by omega)]
    rw [e2]
    have t1 : (2 : Int) < (S : Int) := by omega
    clear h2 e1 e2 cs
    go_enter Tryz.func184, Tryz.ntmps184
    go_wp2_with fail
    refine h1.mono ?_; rintro e w' ⟨rfl, hw'⟩; obtain rfl := hw'.symm
    go_wp2
    exact bodyPost_ret (v := .tuple #[.int .u64 0, .bool false]) (by simp [results, Tryz.results184, go_sem] <;> simp only [*]) rfl ⟨rfl, rfl⟩
  · have e2 : wordN a = (a, true) := by unfold wordN; rw [if_neg (by omega)]
    rw [e2]
    have t1 : ¬ ((2 : Int) < (S : Int)) := by omega
    have h3 := h2 (by omega)
    clear h2 e1 e2 cs
    go_enter Tryz.func184, Tryz.ntmps184
    go_wp2_with fail
    refine h1.mono ?_; rintro e w' ⟨rfl, hw'⟩; obtain rfl := hw'.symm
    go_wp2_with fail
    refine h3.mono ?_; rintro e w' ⟨rfl, hw'⟩; obtain rfl := hw'.symm
    go_wp2
    exact bodyPost_ret (v := .tuple #[.int .u64 (a : Int), .bool true]) (by simp [results, Tryz.results184, go_sem] <;> simp only [*]) rfl ⟨rfl, rfl⟩
theorem Kb.kp2 {g : Nat} {w w' w'' : World} (h : Kb g w w') (k : Kp w' w'') : Kb g w w'' :=
  ⟨k.os.trans h.1, k.tape.trans h.2.1, k.output.trans h.2.2.1, Nat.le_trans h.2.2.2.1 k.size, fun i hi hne => (Below.block k i (Nat.lt_of_lt_of_le hi h.2.2.2.1)).trans (h.2.2.2.2 i hi hne)⟩
set_option maxRecDepth 20000 in
set_option maxHeartbeats 1000000 in
theorem addTimes_ (g n i c1 d X : Nat) (q : Option Addr) (zs ys : List Int) (w : World) (hr : Rw w g n zs) (hzl : zs.length = n) (hwz : Wd zs) (hy : Arr w q ys) (hwy : Wd ys) (hX : X < 4294967296) (hq : 0 < ys.length → ∀ b off, q = some ⟨b, off, none⟩ → b ≠ g) (hin : i + ys.length ≤ n) (hn : n ≤ 1099511627776) (hcc : ys.length ≤ c1) :
    Calls Tryz.prog 182 #[.slice (some ⟨g, i, none⟩) ys.length c1, .slice q ys.length d, .int .u32 (X : Int)] w fun e w' => ∃ (C : Nat) (us : List Int), e = .returned (.int .u32 (C : Int)) ∧ Rw w' g n us ∧ us.length = n ∧ Wd us ∧ C < 4294967296 ∧ val us + C * 4294967296 ^ (i + ys.length) = val zs + val ys * X * 4294967296 ^ i ∧ (∀ j, i + ys.length ≤ j → us.getD j 0 = zs.getD j 0) ∧ Kb g w w' := by
  obtain ⟨M, hM⟩ : ∃ M, M = ys.length := ⟨_, rfl⟩
  rw [← hM] at hin hcc ⊢
  have HY : Hid (Arr w q ys ∧ (0 < ys.length → ∀ b off, q = some ⟨b, off, none⟩ → b ≠ g)) := ⟨hy, hq⟩
  have HW : Hid (Wd ys ∧ M = ys.length) := ⟨hwy, hM⟩
  have HZ : Hid (Rw w g n zs ∧ zs.length = n ∧ Wd zs) := ⟨hr, hzl, hwz⟩
  have hX2 : IntKind.u64.wrap (X : Int) = (X : Int) := by rw [IntKind.wrap_u64]; omega
  clear hy hq hwy hM hr hzl hwz
  go_enter Tryz.func182, Tryz.ntmps182
  go_wp2
  go_loopw [7, 11] (fun cc ii wr => ∃ (k C : Nat) (us : List Int), cc = .int .u64 (C : Int) ∧ ii = .int .i64 k ∧ k ≤ M ∧ Rw wr g n us ∧ us.length = n ∧ Wd us ∧ C < 4294967296 ∧ val us + C * 4294967296 ^ (i + k) = val zs + val (ys.take k) * X * 4294967296 ^ i ∧ (∀ j, i + k ≤ j → us.getD j 0 = zs.getD j 0) ∧ Kb g w wr) (fun _ i _ => M - (intOf i).toNat)
  case atStart => exact ⟨0, 0, zs, rfl, rfl, Nat.zero_le _, HZ.out.1, HZ.out.2.1, HZ.out.2.2, by omega, by simp [val], fun j _ => rfl, Kb.refl _ _⟩
  case round =>
    obtain ⟨k, C, us, rfl, rfl, hk, hrow, hul, hwu, hC, hv, hsam, hkb⟩ := hrel
    obtain ⟨hwy, hM⟩ := HW.out
    by_cases ck : k < M
    · obtain ⟨b', off', rfl, hc'⟩ := HY.out.1.at (k := k) (by omega)
      have hbg := HY.out.2 (by omega) b' off' rfl
      have e2 := hkb.arr hbg (hc' k (by omega))
      have e1 := World.rowIs.cell hrow (i := i + k) (by omega)
      have wy := hwy k
      have wz := hwu (i + k)
      obtain ⟨Y, hY⟩ : ∃ Y : Nat, (Y : Int) = ys.getD k 0 := ⟨(ys.getD k 0).toNat, by omega⟩
      obtain ⟨Z0, hZ0⟩ : ∃ Z0 : Nat, (Z0 : Int) = us.getD (i + k) 0 := ⟨(us.getD (i + k) 0).toNat, by omega⟩
      rw [← hY] at e2
      rw [← hZ0] at e1
      have hmw := mul_word Y X C Z0 (by omega) hX hC (by omega)
      obtain ⟨P, hP⟩ : ∃ P, P = Y * X := ⟨_, rfl⟩
      rw [← hP] at hmw
      obtain ⟨S, hS⟩ : ∃ S : Nat, S = (Z0 : Int).toNat + ((P : Nat) : Int).toNat + C := ⟨_, rfl⟩
      have hst := sum_step us (i + k) C S _ (Z0 : Int) (P : Int) (by omega) hZ0.symm hS hv
      simp only [Int.toNat_natCast] at hS hst
      have hg2 := mul_grow ys X i k
      rw [← hY, Int.toNat_natCast, ← hP] at hg2
      rw [Nat.add_assoc (val zs), ← hg2, Nat.add_assoc i k 1] at hst
      have f1 : IntKind.u64.wrap (Y : Int) = (Y : Int) := by rw [IntKind.wrap_u64]; omega
      have f2 : IntKind.u64.wrap ((Y : Int) * (X : Int)) = (P : Int) := by
        have : (Y : Int) * (X : Int) = (P : Int) := by rw [hP]; exact (Int.natCast_mul Y X).symm
        rw [this, IntKind.wrap_u64]; omega
      have f3 : IntKind.u64.wrap (Z0 : Int) = (Z0 : Int) := by rw [IntKind.wrap_u64]; omega
      have f4 : IntKind.u64.wrap ((P : Int) + (Z0 : Int)) = (P : Int) + (Z0 : Int) := by rw [IntKind.wrap_u64]; omega
      have f5 : IntKind.u64.wrap ((C : Int) + ((P : Int) + (Z0 : Int))) = (S : Int) := by rw [IntKind.wrap_u64]; omega
      obtain ⟨Z, hZ⟩ : ∃ Z : Nat, Z = S % 4294967296 := ⟨_, rfl⟩
      obtain ⟨C', hC2⟩ : ∃ C' : Nat, C' = S / 4294967296 := ⟨_, rfl⟩
      have f6 : IntKind.u32.wrap (S : Int) = (Z : Int) := by rw [IntKind.wrap_u32]; omega
      have f7 : (S : Int) / 4294967296 = (C' : Int) := by omega
      rw [← hZ, ← hC2] at hst
      have hC' : C' < 4294967296 := by omega
      have hw2 : Wd (us.set (i + k) (Z : Int)) := hwu.set (i + k) Z (by omega)
      have hl2 : (us.set (i + k) (Z : Int)).length = n := by rw [List.length_set]; exact hul
      have hsam2 : ∀ j, i + (k + 1) ≤ j → (us.set (i + k) (Z : Int)).getD j 0 = zs.getD j 0 := fun j h1 => by
        rw [← hsam j (by omega)]; simp [List.getD, show ¬ i + k = j from by omega]
      have hik : i + k < us.length := by omega
      have i0 : (0 : Int) ≤ (k : Int) := by omega
      have i1 : (k : Int) < (M : Int) := by omega
      clear hc' HY HW HZ hwy hM hY hZ0 hZ hC2 hS hv hP hg2 wy wz hwu hC hsam hul hmw
      go_wp2
      refine wp_region_kp (by kernel_rfl) (by kernel_rfl) (fun ι _ G hG hall => ?_)
      have c0 : ∀ n, (G n).cell? ⟨g, i + k, none⟩ = some (.int .u32 (Z0 : Int)) := fun n => kkeep (hG n) e1
      have c1 : ∀ n, (G n).cell? ⟨b', off' + k, none⟩ = some (.int .u32 (Y : Int)) := fun n => kkeep (hG n) e2
      repeat (go_big_quiet_step (fail))
      refine wpQuiet_nil ?_
      rintro _ ⟨nq, rfl⟩
      have gq := hG nq
      replace hrow := hrow.grown gq
      have e3 := World.rowIs.cell hrow (i := i + k) (by have := hrow; omega)
      have e4 := World.rowIs.frozen hrow (i + k)
      have hR := hrow.set (i + k) (Z : Int) hik
      have hK := (hkb.kp2 gq).setCell (i + k) (.int .u32 (Z : Int))
      clear c0 c1 hall hG gq e1 e2 hrow hkb
      go_wp2
      exact ⟨⟨k + 1, C', us.set (i + k) (Z : Int), rfl, by go_num, by omega, hR, hl2, hw2, hC', hst, hsam2, hK⟩, by simp [intOf]; omega⟩
    · have hkM : k = M := by omega
      subst hkM
      rw [hM, List.take_length, ← hM] at hv
      have i2 : ¬ ((k : Int) < (k : Int)) := by omega
      have f6 : IntKind.u32.wrap (C : Int) = (C : Int) := by rw [IntKind.wrap_u32]; omega
      clear HY HW HZ hwy hM hk ck
      go_wp2
      exact bodyPost_ret (v := .int .u32 (C : Int)) (by simp [results, Tryz.results182, go_sem] <;> simp only [*]) rfl ⟨C, rfl, us, hrow, hul, hwu, hC, hv, hsam, hkb⟩
set_option maxRecDepth 20000 in
theorem sl32 (g k M n : Nat) (h : k + M ≤ n) (hk : k < n) (w : World) : (Instr.slice 47 (.slice (some ⟨g, 0, none⟩) n n) (some (.int .i64 (k : Int))) (some (.int .i64 ((k : Int) + (M : Int)))) none).run Tryz.prog w = .ok (.slice (some ⟨g, k, none⟩) M (n - k)) w := by
  rw [run_slice_lh w 47 (some ⟨g, 0, none⟩) n n Tryz.underlying47 .i64 .i64 (k : Int) ((k : Int) + (M : Int)) (by omega) (by omega) (by omega)]
  have e : (sizeOf (Tryz.prog.elem 47)).run Tryz.prog w = .ok 1 w := by kernel_rfl
  have e2 : ((k : Int) + (M : Int)).toNat - k = M := by omega
  have e3 : ¬ n = k := by omega
  rw [e]
  simp [Result.andThen, sliced, e2, e3, Addr.add_lit]
theorem val_zeros (zs : List Int) (h : ∀ j, zs.getD j 0 = 0) : val zs = 0 := by
  induction zs with
  | nil => rfl
  | cons z r ih =>
    have h0 := h 0
    simp at h0
    have := ih (fun j => by have := h (j + 1); simpa using this)
    simp [val, h0, this]
theorem Wd_rep0 (n : Nat) : Wd (List.replicate n (0 : Int)) := by
  intro j
  by_cases c : j < n
  · simp [List.getD, c]
  · simp [List.getD, c]
theorem rep0_getD (n j : Nat) : (List.replicate n (0 : Int)).getD j 0 = 0 := by
  by_cases c : j < n
  · simp [List.getD, c]
  · simp [List.getD, c]
set_option maxRecDepth 20000 in
set_option maxHeartbeats 1000000 in
theorem product_ (p q : Option Addr) (c d : Nat) (xs ys : List Int) (w : World) (hx : Arr w p xs) (hy : Arr w q ys) (hwx : Wd xs) (hwy : Wd ys) (lx : xs.length ≤ 16777216) (ly : ys.length ≤ 16777216) :
    Calls Tryz.prog 165 #[.slice p xs.length c, .slice q ys.length d] w fun e w' => ∃ v, e = .returned v ∧ Own w' w.heap.size v (dig (val xs * val ys)) ∧ Kp w w' := by
  obtain ⟨N, hN⟩ : ∃ N, N = xs.length := ⟨_, rfl⟩
  obtain ⟨M, hM⟩ : ∃ M, M = ys.length := ⟨_, rfl⟩
  obtain ⟨L, hL⟩ : ∃ L, L = N + M := ⟨_, rfl⟩
  have hmk : ∀ w : World, (Instr.makeSlice 47 (.int .i64 ((N : Int) + (M : Int))) (.int .i64 ((N : Int) + (M : Int)))).run Tryz.prog w = .ok (.slice (some ⟨w.heap.size, 0, none⟩) L L) (w.alloc (.cells (madeCells #[.int .u32 0] L) 80)) := by
    have := mk32 L (by omega)
    have e : ((L : Nat) : Int) = (N : Int) + (M : Int) := by omega
    rw [e] at this
    exact this
  have hk1 : Kp w (w.alloc (.cells (madeCells #[.int .u32 0] L) 80)) := (Kp.refl w).alloc _
  have hrz : Rw (w.alloc (.cells (madeCells #[.int .u32 0] L) 80)) w.heap.size L (List.replicate L 0) := World.rowIs.congr (World.rowIs_made w (.int .u32 0) L 80) (fun j _ => by rw [rep0_getD])
  obtain ⟨zs0, hz0⟩ : ∃ zs0, zs0 = List.replicate L (0 : Int) := ⟨_, rfl⟩
  have hzl0 : zs0.length = L := by rw [hz0]; simp
  have hwz0 : Wd zs0 := by rw [hz0]; exact Wd_rep0 _
  have hzz0 : ∀ j, zs0.getD j 0 = 0 := fun j => by rw [hz0]; exact rep0_getD _ _
  have hvz0 := val_zeros zs0 hzz0
  rw [← hz0] at hrz
  have HX : Hid (Arr w p xs ∧ Wd xs) := ⟨hx, hwx⟩
  have HY : Hid (Arr w q ys ∧ Wd ys) := ⟨hy, hwy⟩
  have HN : Hid (N = xs.length ∧ M = ys.length ∧ N ≤ 16777216 ∧ M ≤ 16777216) := ⟨hN, hM, by omega, by omega⟩
  obtain ⟨g, hg⟩ : ∃ g, g = w.heap.size := ⟨_, rfl⟩
  rw [← hg] at hrz
  have HG : Hid (g = w.heap.size) := hg
  have lN : N ≤ 16777216 := by omega
  have lM : M ≤ 16777216 := by omega
  rw [← hN, ← hM]
  have hLN : L = N + M := hL
  clear hx hy hwx hwy lx ly hN hM hz0 hL
  have HL : Hid (L = N + M) := hLN
  clear hLN
  go_enter Tryz.func165, Tryz.ntmps165
  go_wp2
  rw [← hg]
  clear hmk hg
  go_loopw [15] (fun i wr => ∃ (k : Nat) (zs : List Int), i = .int .i64 k ∧ k ≤ N ∧ Rw wr g L zs ∧ zs.length = L ∧ Wd zs ∧ val zs = val (xs.take k) * val ys ∧ (∀ j, k + M ≤ j → zs.getD j 0 = 0) ∧ Kp w wr) (fun i _ => N - (intOf i).toNat)
  case atStart => exact ⟨0, zs0, rfl, Nat.zero_le _, hrz, hzl0, hwz0, by rw [hvz0]; simp [val], fun j _ => hzz0 j, hk1⟩
  case round =>
    clear hrz hzl0 hwz0 hzz0 hvz0 hk1
    obtain ⟨k, zs, rfl, hk, hrow, hzl, hwz, hv, hzz, hkp⟩ := hrel
    obtain ⟨hN, hM, hn1, hm1⟩ := HN.out
    clear hn1 hm1
    have hLe := HL.out
    by_cases ck : k < N
    · obtain ⟨b, off, rfl, hc⟩ := HX.out.1.at (k := k) (by omega)
      have e0 := hc k (by omega)
      have e1 := kkeep hkp e0
      have hbg : b ≠ g := by have := cell_lt e0; have := HG.out; omega
      have wx := HX.out.2 k
      have hrp := row_prod xs k (val ys)
      obtain ⟨X, hX⟩ : ∃ X : Nat, (X : Int) = xs.getD k 0 := ⟨(xs.getD k 0).toNat, by omega⟩
      rw [← hX] at e1 wx hrp
      rw [Int.toNat_natCast] at hrp
      have i0 : (0 : Int) ≤ (k : Int) := by omega
      have i1 : (k : Int) < (N : Int) := by omega
      by_cases cX : X = 0
      · subst cX
        have hv2 : val zs = val (xs.take (k + 1)) * val ys := by rw [← hrp, hv]; simp
        have t1 : (((0 : Nat) : Int) != 0) = false := by simp
        clear hc e0 HX HY HN HG hN hM hX wx hrp hbg hv HL hLe
        go_wp2
        exact ⟨⟨k + 1, zs, by go_num, by omega, hrow, hzl, hwz, hv2, fun j hj => hzz j (by omega), hkp⟩, by simp [intOf]; omega⟩
      · have t1 : ((X : Int) != 0) = true := by simp; omega
        have hgw : w.heap.size ≤ g := by rw [HG.out]; exact Nat.le_refl _
        have hM0 : 0 < ys.length → ∀ b' off', q = some ⟨b', off', none⟩ → b' ≠ g := fun h0 b' off' e => by
          obtain ⟨b2, o2, h1, h2⟩ := HY.out.1.at (k := 0) h0
          rw [h1] at e
          cases e
          have := cell_lt (h2 0 h0)
          have := HG.out
          omega
        have had := fun w' (h : Kp wr w') => addTimes_ g L k (L - k) d X q zs ys w' (hrow.grown h) hzl hwz (HY.out.1.grown (hkp.trans h)) HY.out.2 (by omega) hM0 (by omega) (by omega) (by omega)
        rw [← hM, hv, hrp] at had
        obtain ⟨E, hE⟩ : ∃ E, E = k + M := ⟨_, rfl⟩
        have fE : (k : Int) + (M : Int) = (E : Int) := by omega
        have i2 : (k : Int) ≤ (E : Int) := by omega
        have i3 : (E : Int) ≤ (L : Int) := by omega
        have i4 : (E : Int) < (L : Int) := by omega
        have i5 : (0 : Int) ≤ (E : Int) := by omega
        have i7 : ¬ (L = k) := by omega
        have i8 : E - k = M := by omega
        have hsl : ∀ w : World, (Instr.slice 47 (.slice (some ⟨g, 0, none⟩) L L) (some (.int .i64 (k : Int))) (some (.int .i64 (E : Int))) none).run Tryz.prog w = .ok (.slice (some ⟨g, k, none⟩) M (L - k)) w := by
          rw [← fE]; exact sl32 g k M L (by omega) (by omega)
        rw [← hE] at had
        have hz0 := hzz E (by omega)
        have hkM : E < L := by omega
        have hE9 : (E : Int) < 9223372036854775808 := by omega
        have fE1 := w64 (E : Int) i5 hE9
        have fE2 := wi64 (E : Int) i5 hE9
        have HE : Hid (E = k + M) := hE
        clear hc e0 HX HY HN hN hM hX wx hv hwz hM0 hrp hzl HL hLe hE
        go_wp2
        go_region_held3 (fun w' => w'.cell? ⟨b, off + k, none⟩ = some (.int .u32 (X : Int))) (first | (exact e1) | (exact hkb2.arr hbg e1) | (exact (World.cell?_setCell_far _ _ _ _ (Ne.symm hbg)).trans (hkb2.arr hbg e1))) (first | (go_at_call 182; refine (had _ (Kp.refl _).drew).mono ?_; rintro e w2 ⟨C, us, rfl, hR2, hl2, hw2, hC, hv2, hs2, hkb2⟩; have e3 := World.rowIs.cell hR2 (i := E) hkM; have e4 := World.rowIs.frozen hR2 E))
        clear fE1 fE2 fE hE9 i5 i7 i8 hsl had
        have hE := HE.out
        have hu0 : us.getD E 0 = 0 := by rw [hs2 _ (Nat.le_refl _)]; exact hz0
        have hvs := val_set us E (C : Int) (by omega)
        rw [hu0, Int.toNat_natCast, hv2] at hvs
        have hv3 : val (us.set E (C : Int)) = val (xs.take (k + 1)) * val ys := by simpa using hvs
        have hR := hR2.set E (C : Int) (by omega)
        have hK : Kp w (w2.setCell ⟨g, E, none⟩ (.int .u32 (C : Int))) := (hkb2.kp (hkp.drew) hgw).setCell hgw _
        have hw3 : Wd (us.set E (C : Int)) := hw2.set _ _ (by omega)
        have hl3 : (us.set E (C : Int)).length = L := by rw [List.length_set]; exact hl2
        have hz3 : ∀ j, k + 1 + M ≤ j → (us.set E (C : Int)).getD j 0 = 0 := fun j hj => by
          have e1 : (us.set E (C : Int)).getD j 0 = us.getD j 0 := by simp [List.getD, show ¬ E = j from by omega]
          rw [e1, hs2 j (by omega)]
          exact hzz j (by omega)
        clear HE hE e1 e3 e4 hv2 hvs hs2 hzz hkb2 hR2 hkp hrow
        go_wp2
        exact ⟨⟨k + 1, us.set E (C : Int), by go_num, by omega, hR, hl3, hw3, hv3, hz3, hK⟩, by simp [intOf]; omega⟩
    · have hkN : k = N := by omega
      subst hkN
      rw [hN, List.take_length] at hv
      have hA := hrow.arr L (Nat.le_refl _) (by omega)
      rw [List.take_of_length_le (by omega)] at hA
      have htr := trim_ (some ⟨g, 0, none⟩) L zs wr hA (by omega) (by omega)
      have hO : Own wr w.heap.size (.slice (some ⟨g, 0, none⟩) (tl zs) L) (dig (val xs * val ys)) := by
        have h1 := Own.of_row (base := w.heap.size) (k := tl zs) hrow (by rw [HG.out]; exact Nat.le_refl _) (by have := tl_le zs; omega) hzl (by unfold maxLen; omega)
        have h2 : zs.take (tl zs) = dig (val xs * val ys) := by rw [← hv, ← nz_dig zs hwz]; rfl
        rw [h2] at h1
        exact h1
      rw [hzl] at htr
      obtain ⟨T, hT⟩ : ∃ T, T = tl zs := ⟨_, rfl⟩
      rw [← hT] at htr hO
      have i2 : ¬ ((k : Int) < (k : Int)) := by omega
      clear hA hrow hzl hwz hv hT HX HY HN HG hN hM hzz HL hLe
      go_wp2_with (first | (go_at_call 162; refine htr.mono ?_; rintro e w' ⟨rfl, hw'⟩; obtain rfl := hw'.symm))
      exact bodyPost_ret (v := .slice (some ⟨g, 0, none⟩) T L) (by simp [results, Tryz.results165, go_sem] <;> simp only [*]) rfl ⟨_, rfl, hO, hkp⟩
theorem low_bit32 (o k : Nat) (ho : o % 2 = 1) (hx : o * 2 ^ k < 2 ^ 32) : (o * 2 ^ k) &&& (2 ^ 32 - o * 2 ^ k) = 2 ^ k := by
  have hp := Nat.two_pow_pos k
  have hpos : 0 < o * 2 ^ k := Nat.mul_pos (by omega) hp
  apply Nat.eq_of_testBit_eq
  intro i
  rw [Nat.testBit_and, show 2 ^ 32 - o * 2 ^ k = 2 ^ 32 - ((o * 2 ^ k - 1) + 1) from by omega, Nat.testBit_two_pow_sub_succ (by omega), Nat.testBit_two_pow]
  have e1 : (o * 2 ^ k).testBit i = (decide (i ≥ k) && o.testBit (i - k)) := by rw [← Nat.shiftLeft_eq, Nat.testBit_shiftLeft]
  have e2 : (o * 2 ^ k - 1).testBit i = if i < k then (2 ^ k - 1).testBit i else (o - 1).testBit (i - k) := by
    rw [← Nat.testBit_two_pow_mul_add (o - 1) (by omega : 2 ^ k - 1 < 2 ^ k) i]
    congr 1
    have : 2 ^ k * (o - 1) + 2 ^ k = 2 ^ k * o := by rw [← Nat.mul_succ]; congr 1; omega
    rw [Nat.mul_comm o]
    omega
  have hk : k < 32 := by
    have h1 : 2 ^ k ≤ o * 2 ^ k := Nat.le_mul_of_pos_left _ (by omega)
    exact (Nat.pow_lt_pow_iff_right (by decide : 1 < 2)).1 (Nat.lt_of_le_of_lt h1 hx)
  rw [e1, e2]
  by_cases c : i < k
  · have : ¬ i ≥ k := by omega
    have h2 : ¬ k = i := by omega
    simp [this, h2]
  · rw [if_neg c]
    obtain ⟨j, rfl⟩ : ∃ j, i = k + j := ⟨i - k, by omega⟩
    rw [show k + j - k = j from by omega]
    cases j with
    | zero =>
      have h1 : (o - 1).testBit 0 = false := by rw [Nat.testBit_zero]; simp; omega
      have h2 : o.testBit 0 = true := by rw [Nat.testBit_zero]; simp; omega
      simp [h1, h2, hk]
    | succ j =>
      have h1 : (o - 1).testBit (j + 1) = o.testBit (j + 1) := by
        rw [Nat.testBit_succ, Nat.testBit_succ]; congr 1; omega
      rw [h1]
      have h2 : ¬ k = k + (j + 1) := by omega
      cases o.testBit (j + 1) <;> simp

def tabL : List Int := [0, 1, 28, 2, 29, 14, 24, 3, 30, 22, 20, 15, 25, 17, 4, 8, 31, 27, 13, 23, 21, 19, 16, 7, 26, 12, 18, 6, 11, 5, 10, 9]
def Tab (w : World) : Prop := ∀ i : Nat, i < 32 → w.cell? ⟨2, i, none⟩ = some (.int .u8 (tabL.getD i 0))
theorem Tab.grown {w w' : World} (h : Tab w) (g : Kp w w') : Tab w' := fun i hi => kkeep g (h i hi)
theorem Tab.lt {w : World} (h : Tab w) : 2 < w.heap.size := cell_lt (h 0 (by omega))
theorem Tab.kb {w w' : World} {g : Nat} (h : Tab w) (k : Kb g w w') (hne : 2 ≠ g) : Tab w' := fun i hi => k.arr hne (h i hi)
theorem castj (P D M Q : Nat) : ((P * D % M / Q : Nat) : Int) = (P : Int) * (D : Int) % (M : Int) / (Q : Int) := by push_cast; rfl
theorem tab_at : ∀ k : Fin 32, 2 ^ k.val * 125613361 % 4294967296 / 134217728 < 32 ∧ tabL.getD (2 ^ k.val * 125613361 % 4294967296 / 134217728) 0 = (k.val : Int) := by decide +kernel
set_option maxRecDepth 20000 in
set_option maxHeartbeats 1000000 in
theorem tz32_ (o k : Nat) (ho : o % 2 = 1) (hx : o * 2 ^ k < 4294967296) (w : World) (hT : Tab w) :
    Calls Tryz.prog 205 #[.int .u32 ((o * 2 ^ k : Nat) : Int)] w fun e w' => e = .returned (.int .i64 (k : Int)) ∧ w' = w := by
  have hp := Nat.two_pow_pos k
  have hpos : 0 < o * 2 ^ k := Nat.mul_pos (by omega) hp
  have h64 : (2 : Nat) ^ 32 = 4294967296 := by decide
  have hk : k < 32 := by
    have h1 : 2 ^ k ≤ o * 2 ^ k := Nat.le_mul_of_pos_left _ (by omega)
    exact (Nat.pow_lt_pow_iff_right (by decide : 1 < 2)).1 (Nat.lt_of_le_of_lt h1 (by rw [h64]; exact hx))
  have hlow := low_bit32 o k ho (by rw [h64]; exact hx)
  rw [h64] at hlow
  obtain ⟨t1, t2⟩ := tab_at ⟨k, hk⟩
  simp only at t1 t2
  obtain ⟨x, hxx⟩ : ∃ x : Nat, x = o * 2 ^ k := ⟨_, rfl⟩
  rw [← hxx] at hlow hx hpos ⊢
  obtain ⟨P, hP⟩ : ∃ P : Nat, P = 2 ^ k := ⟨_, rfl⟩
  rw [← hP] at hlow t1 t2
  have hc : w.cell? ⟨2, P * 125613361 % 4294967296 / 134217728, none⟩ = some (.int .u8 (k : Int)) := by rw [hT _ t1, t2]
  have d1 : ((x : Int) == 0) = false := by simp; omega
  have f1 : IntKind.u32.wrap (-(x : Int)) = ((4294967296 - x : Nat) : Int) := by rw [IntKind.wrap_u32]; omega
  have f2 : bits BinOp.and IntKind.u32 (x : Int) ((4294967296 - x : Nat) : Int) = (P : Int) := by
    rw [u32_and_nat x (4294967296 - x) hx (by omega), hlow]
  obtain ⟨y, hy⟩ : ∃ y : Int, y = ((4294967296 - x : Nat) : Int) := ⟨_, rfl⟩
  rw [← hy] at f1 f2
  have f4 : (0 : Int) ≤ (P : Int) * 125613361 % 4294967296 / 134217728 := by omega
  have f5 : (P : Int) * 125613361 % 4294967296 / 134217728 < 32 := by omega
  have f6 : wrap64 (k : Int) = (k : Int) := by unfold wrap64; omega
  clear hy hP hxx hlow t1 t2 hpos hp h64 hx ho hT hk
  go_enter Tryz.func205, Tryz.ntmps205
  go_wp2
  exact bodyPost_ret (v := .int .i64 (k : Int)) (by simp [results, Tryz.results205, go_sem] <;> simp only [*]) rfl ⟨rfl, rfl⟩
set_option maxRecDepth 20000 in
set_option maxHeartbeats 1000000 in
theorem nzeros_ (p : Option Addr) (c : Nat) (xs : List Int) (w : World) (hx : Arr w p xs) (hwx : Wd xs) (lx : xs.length ≤ 16777216) (hT : Tab w) :
    Calls Tryz.prog 198 #[.slice p xs.length c] w fun e w' => e = .returned (.int .i64 (ctz (val xs) : Nat)) ∧ w' = w := by
  obtain ⟨N, hN⟩ : ∃ N, N = xs.length := ⟨_, rfl⟩
  obtain ⟨R, hR⟩ : ∃ R, R = ctz (val xs) := ⟨_, rfl⟩
  have HX : Hid (Arr w p xs ∧ Wd xs ∧ N = xs.length ∧ R = ctz (val xs) ∧ Tab w) := ⟨hx, hwx, hN, hR, hT⟩
  have lN : N ≤ 16777216 := by omega
  rw [← hN, ← hR]
  clear hx hwx lx hN hR hT
  go_enter Tryz.func198, Tryz.ntmps198
  go_wp2
  go_loop [6] (fun i => ∃ k : Nat, i = .int .i64 k ∧ k ≤ N ∧ ∀ j, j < k → xs.getD j 0 = 0) (fun i => N - (intOf i).toNat)
  case atStart => exact ⟨0, rfl, Nat.zero_le _, fun j h => by omega⟩
  case round =>
    obtain ⟨k, rfl, hk, hz⟩ := hrel
    obtain ⟨hx, hwx, hN, hR, hT⟩ := HX.out
    by_cases ck : k < N
    · obtain ⟨b, off, rfl, hc⟩ := hx.at (k := k) (by omega)
      have e1 := hc k (by omega)
      have wx := hwx k
      have i0 : (0 : Int) ≤ (k : Int) := by omega
      have i1 : (k : Int) < (N : Int) := by omega
      by_cases cx : xs.getD k 0 = 0
      · have HZ : Hid (∀ j, j < k + 1 → xs.getD j 0 = 0) := fun j hj => by
          by_cases e : j = k
          · subst e; exact cx
          · exact hz j (by omega)
        rw [cx] at e1
        clear HX hx hwx hN hR hT hc wx cx hz
        go_wp2
        exact ⟨⟨k + 1, by go_num, by omega, HZ.out⟩, by simp [intOf]; omega⟩
      · obtain ⟨o, s, ho, hs⟩ := odd_part (xs.getD k 0).toNat (by omega)
        have hlt : o * 2 ^ s < 4294967296 := by omega
        have hs32 : s < 32 := by
          have h1 : 2 ^ s ≤ o * 2 ^ s := Nat.le_mul_of_pos_left _ (by omega)
          exact (Nat.pow_lt_pow_iff_right (by decide : 1 < 2)).1 (Nat.lt_of_le_of_lt h1 (Nat.lt_of_lt_of_le hlt (by decide)))
        have hRv := ctz_val xs k o s hz (by omega) ho hs32 hs
        rw [← hR] at hRv
        have htz := tz32_ o s ho hlt w hT
        have e2 : xs.getD k 0 = ((o * 2 ^ s : Nat) : Int) := by omega
        rw [e2] at e1
        obtain ⟨X, hX⟩ : ∃ X : Nat, X = o * 2 ^ s := ⟨_, rfl⟩
        rw [← hX] at e1 htz hs
        have t1 : ((X : Int) != 0) = true := by simp; omega
        have f1 : (k : Int) * 32 + (s : Int) = (R : Int) := by omega
        have hkb : k ≤ 16777216 := by omega
        clear HX hx hwx hN hR hT hc wx cx hz ho hs hlt e2 hX hRv
        go_wp2_with (first | (go_at_call 205; refine htz.mono ?_; rintro e w' ⟨rfl, hw'⟩; obtain rfl := hw'.symm))
        exact bodyPost_ret (v := .int .i64 (R : Int)) (by simp [results, Tryz.results198, go_sem] <;> simp only [*]) rfl ⟨rfl, rfl⟩
    · have hv : val xs = 0 := val_zeros xs (fun j => by
        by_cases e : j < k
        · exact hz j e
        · simp [List.getD, List.getElem?_eq_none (by omega : xs.length ≤ j)])
      rw [hv, ctz_zero] at hR
      subst hR
      have i1 : ¬ ((k : Int) < (N : Int)) := by omega
      clear HX hx hwx hN hT hz hv
      go_wp2
      exact bodyPost_ret (v := .int .i64 0) (by simp [results, Tryz.results198, go_sem] <;> simp only [*]) rfl ⟨rfl, rfl⟩
end Go.Proofs.YthdnajcgdngmcaaGreatDoor
