import Derived.Test.YteedfmghgkmofaaGreatDoorKNF
import Derived.Test.YteedfmghgkmofaaGreatDoorKXN
namespace Go.Proofs.YteedfmghgkmofaaGreatDoor
open Go.RowKit
set_option maxRecDepth 20000 in
set_option maxHeartbeats 1000000 in
theorem lowest_ (p : Option Addr) (c : Nat) (xs : List Int) (w : World) (hx : Arr w p xs) (hwx : Wd xs) (lx : xs.length ≤ 2) :
    Calls Tryz.prog 140 #[.slice p xs.length c] w fun e w' => e = .returned (.int .u64 (val xs : Nat)) ∧ w' = w := by
  obtain ⟨N, hN⟩ : ∃ N, N = xs.length := ⟨_, rfl⟩
  have HX : Hid (Arr w p xs ∧ Wd xs ∧ N = xs.length) := ⟨hx, hwx, hN⟩
  have hmin : min (N : Int) 2 = (N : Int) := by omega
  have hN2 : N ≤ 2 := by omega
  rw [← hN]
  clear hx hwx lx hN
  go_enter Tryz.func140, Tryz.ntmps140
  go_wp2
  go_loop [3, 8] (fun v i => ∃ k : Nat, i = .int .i64 k ∧ k ≤ N ∧ v = .int .u64 (val (xs.take k) : Nat)) (fun _ i => N - (intOf i).toNat)
  case atStart => exact ⟨0, rfl, Nat.zero_le _, by simp [val]⟩
  case round =>
    obtain ⟨k, rfl, hk, rfl⟩ := hrel
    obtain ⟨hx, hwx, hN⟩ := HX.out
    by_cases ck : k < N
    · obtain ⟨b, off, rfl, hc⟩ := hx.at (k := k) (by omega)
      have e1 := hc k (by omega)
      have wx := hwx k
      have hst := val_take_succ xs k
      have hlt := val_two xs hwx (by omega) (k + 1)
      have hlk := val_take_lt xs hwx k
      obtain ⟨X, hX⟩ : ∃ X : Nat, (X : Int) = xs.getD k 0 := ⟨(xs.getD k 0).toNat, by omega⟩
      rw [← hX] at e1 hst
      rw [Int.toNat_natCast] at hst
      obtain ⟨V, hV⟩ : ∃ V, V = val (xs.take k) := ⟨_, rfl⟩
      obtain ⟨V', hV'⟩ : ∃ V', V' = val (xs.take (k + 1)) := ⟨_, rfl⟩
      rw [← hV] at hst hlk ⊢
      rw [← hV'] at hst hlt
      have HG : Hid (V' = val (xs.take (k + 1))) := hV'
      have f0 : IntKind.u64.wrap (X : Int) = (X : Int) := by rw [IntKind.wrap_u64]; omega
      have i0 : (0 : Int) ≤ (k : Int) := by omega
      have i1 : (k : Int) < (N : Int) := by omega
      have hX32 : X < 4294967296 := by omega
      clear hx hwx hN hc wx hX hV hV' HX
      rcases (by omega : k = 0 ∨ k = 1) with rfl | rfl
      · have hV0 : V = 0 := by simpa using hlk
        subst hV0
        have hX' : V' = X := by simpa using hst
        subst hX'
        have f2 : bits BinOp.or IntKind.u64 0 (V' : Int) = (V' : Int) := by
          have := bits_or_u64_nat 0 V' (by omega) (by omega)
          simpa using this
        rw [Nat.add_zero] at e1
        clear hst hlt hlk
        go_wp2
        exact ⟨⟨1, by go_num, by omega, by rw [← HG.out]⟩, by simp [intOf]; omega⟩
      · have f1 : IntKind.u64.wrap ((X : Int) * 4294967296) = ((X * 4294967296 : Nat) : Int) := by rw [IntKind.wrap_u64]; omega
        have hor := or_low V X 32 (by simpa using hlk)
        have f2 := bits_or_u64_nat V (X * 4294967296) (by omega) (by omega)
        have e2 : V ||| X * 4294967296 = V' := by
          have e3 : V + X * 4294967296 = V' := by omega
          rw [← e3]; exact hor
        rw [e2] at f2
        obtain ⟨Y, hY⟩ : ∃ Y : Nat, Y = X * 4294967296 := ⟨_, rfl⟩
        rw [← hY] at f1 f2
        clear hst hlt hlk hor e2 hY
        go_wp2
        exact ⟨⟨2, by go_num, by omega, by rw [← HG.out]⟩, by simp [intOf]; omega⟩
    · have hkN : k = N := by omega
      subst hkN
      rw [hN, List.take_length]
      obtain ⟨V, hV⟩ : ∃ V, V = val xs := ⟨_, rfl⟩
      rw [← hV]
      have i1 : ¬ ((k : Int) < (k : Int)) := by omega
      have HV : Hid (V = val xs) := hV
      clear HX hx hwx hN hV
      go_wp2
      exact bodyPost_ret (v := .int .u64 (V : Int)) (by simp [results, Tryz.results140, go_sem] <;> simp only [*]) rfl ⟨by rw [HV.out], rfl⟩
set_option maxRecDepth 20000 in
set_option maxHeartbeats 1000000 in
theorem nword_ (p : Option Addr) (c : Nat) (xs : List Int) (w : World) (hx : Arr w p xs) (hwx : Wd xs) (lx : xs.length ≤ 16777216) (hc : xs.length ≤ c) :
    Calls Tryz.prog 114 #[.slice p xs.length c] w fun e w' => e = .returned (.tuple #[.int .u64 ((wordN (val xs)).1 : Nat), .bool (wordN (val xs)).2]) ∧ w' = w := by
  have h1 := trim_ p c xs w hx (by omega) hc
  have e1 := tl_len xs hwx
  have h2 : tl xs ≤ 2 → Calls Tryz.prog 140 #[.slice p (tl xs) c] w fun e w' => e = .returned (.int .u64 (val xs : Nat)) ∧ w' = w := fun h => by
    have := lowest_ p c (nz xs) w (hx.take _) (hwx.take _) (by rw [nz_length]; exact h)
    rw [nz_length, val_nz] at this
    exact this
  obtain ⟨a, ha⟩ : ∃ a, a = val xs := ⟨_, rfl⟩
  obtain ⟨N, hN⟩ : ∃ N, N = xs.length := ⟨_, rfl⟩
  obtain ⟨S, hS⟩ : ∃ S, S = tl xs := ⟨_, rfl⟩
  rw [← ha] at e1 h2 ⊢
  rw [← hN, ← hS] at h1
  rw [← hS] at e1 h2
  rw [← hN]
  clear hx hwx lx hc ha hN hS
  by_cases cs : 2 < S
  · have e2 : wordN a = (0, false) := by unfold wordN; rw [if_pos (by omega)]
    rw [e2]
    have t1 : (2 : Int) < (S : Int) := by omega
    clear h2 e1 e2 cs
    go_enter Tryz.func114, Tryz.ntmps114
    go_wp2_with fail
    refine h1.mono ?_; rintro e w' ⟨rfl, hw'⟩; obtain rfl := hw'.symm
    go_wp2
    exact bodyPost_ret (v := .tuple #[.int .u64 0, .bool false]) (by simp [results, Tryz.results114, go_sem] <;> simp only [*]) rfl ⟨rfl, rfl⟩
  · have e2 : wordN a = (a, true) := by unfold wordN; rw [if_neg (by omega)]
    rw [e2]
    have t1 : ¬ ((2 : Int) < (S : Int)) := by omega
    have h3 := h2 (by omega)
    clear h2 e1 e2 cs
    go_enter Tryz.func114, Tryz.ntmps114
    go_wp2_with fail
    refine h1.mono ?_; rintro e w' ⟨rfl, hw'⟩; obtain rfl := hw'.symm
    go_wp2_with fail
    refine h3.mono ?_; rintro e w' ⟨rfl, hw'⟩; obtain rfl := hw'.symm
    go_wp2
    exact bodyPost_ret (v := .tuple #[.int .u64 (a : Int), .bool true]) (by simp [results, Tryz.results114, go_sem] <;> simp only [*]) rfl ⟨rfl, rfl⟩
theorem Kb.kp2 {g : Nat} {w w' w'' : World} (h : Kb g w w') (k : Kp w' w'') : Kb g w w'' :=
  ⟨k.os.trans h.1, k.tape.trans h.2.1, k.output.trans h.2.2.1, Nat.le_trans h.2.2.2.1 k.size, fun i hi hne => (Below.block k i (Nat.lt_of_lt_of_le hi h.2.2.2.1)).trans (h.2.2.2.2 i hi hne)⟩
set_option maxRecDepth 20000 in
set_option maxHeartbeats 1000000 in
theorem addTimes_ (g n i c1 d X : Nat) (q : Option Addr) (zs ys : List Int) (w : World) (hr : Rw w g n zs) (hzl : zs.length = n) (hwz : Wd zs) (hy : Arr w q ys) (hwy : Wd ys) (hX : X < 4294967296) (hq : 0 < ys.length → ∀ b off, q = some ⟨b, off, none⟩ → b ≠ g) (hin : i + ys.length ≤ n) (hn : n ≤ 1099511627776) (hcc : ys.length ≤ c1) :
    Calls Tryz.prog 163 #[.slice (some ⟨g, i, none⟩) ys.length c1, .slice q ys.length d, .int .u32 (X : Int)] w fun e w' => ∃ (C : Nat) (us : List Int), e = .returned (.int .u32 (C : Int)) ∧ Rw w' g n us ∧ us.length = n ∧ Wd us ∧ C < 4294967296 ∧ val us + C * 4294967296 ^ (i + ys.length) = val zs + val ys * X * 4294967296 ^ i ∧ (∀ j, i + ys.length ≤ j → us.getD j 0 = zs.getD j 0) ∧ Kb g w w' := by
  obtain ⟨M, hM⟩ : ∃ M, M = ys.length := ⟨_, rfl⟩
  rw [← hM] at hin hcc ⊢
  have HY : Hid (Arr w q ys ∧ (0 < ys.length → ∀ b off, q = some ⟨b, off, none⟩ → b ≠ g)) := ⟨hy, hq⟩
  have HW : Hid (Wd ys ∧ M = ys.length) := ⟨hwy, hM⟩
  have HZ : Hid (Rw w g n zs ∧ zs.length = n ∧ Wd zs) := ⟨hr, hzl, hwz⟩
  have hX2 : IntKind.u64.wrap (X : Int) = (X : Int) := by rw [IntKind.wrap_u64]; omega
  clear hy hq hwy hM hr hzl hwz
  go_enter Tryz.func163, Tryz.ntmps163
  go_wp2
  go_loopw [7, 11] (fun cc ii wr => ∃ (k C : Nat) (us : List Int), cc = .int .u64 (C : Int) ∧ ii = .int .i64 k ∧ k ≤ M ∧ Rw wr g n us ∧ us.length = n ∧ Wd us ∧ C < 4294967296 ∧ val us + C * 4294967296 ^ (i + k) = val zs + val (ys.take k) * X * 4294967296 ^ i ∧ (∀ j, i + k ≤ j → us.getD j 0 = zs.getD j 0) ∧ Kb g w wr) (fun _ i _ => M - (intOf i).toNat)
  case atStart => exact ⟨0, 0, zs, rfl, rfl, Nat.zero_le _, HZ.out.1, HZ.out.2.1, HZ.out.2.2, by omega, by simp [val], fun j _ => rfl, Kb.refl _ _⟩
  case round =>
    obtain ⟨k, C, us, rfl, rfl, hk, hrow, hul, hwu, hC, hv, hsam, hkb⟩ := hrel
    obtain ⟨hwy, hM⟩ := HW.out
    by_cases ck : k < M
    · obtain ⟨b', off', rfl, hc'⟩ := HY.out.1.at (k := k) (by omega)
      have hbg := HY.out.2 (by omega) b' off' rfl
      have e2 := hkb.arr hbg (hc' k (by omega))
      have e1 := World.rowIs.cell hrow (i := i + k) (by omega)
      have wy := hwy k
      have wz := hwu (i + k)
      obtain ⟨Y, hY⟩ : ∃ Y : Nat, (Y : Int) = ys.getD k 0 := ⟨(ys.getD k 0).toNat, by omega⟩
      obtain ⟨Z0, hZ0⟩ : ∃ Z0 : Nat, (Z0 : Int) = us.getD (i + k) 0 := ⟨(us.getD (i + k) 0).toNat, by omega⟩
      rw [← hY] at e2
      rw [← hZ0] at e1
      have hmw := mul_word Y X C Z0 (by omega) hX hC (by omega)
      obtain ⟨P, hP⟩ : ∃ P, P = Y * X := ⟨_, rfl⟩
      rw [← hP] at hmw
      obtain ⟨S, hS⟩ : ∃ S : Nat, S = (Z0 : Int).toNat + ((P : Nat) : Int).toNat + C := ⟨_, rfl⟩
      have hst := sum_step us (i + k) C S _ (Z0 : Int) (P : Int) (by omega) hZ0.symm hS hv
      simp only [Int.toNat_natCast] at hS hst
      have hg2 := mul_grow ys X i k
      rw [← hY, Int.toNat_natCast, ← hP] at hg2
      rw [Nat.add_assoc (val zs), ← hg2, Nat.add_assoc i k 1] at hst
      have f1 : IntKind.u64.wrap (Y : Int) = (Y : Int) := by rw [IntKind.wrap_u64]; omega
      have f2 : IntKind.u64.wrap ((Y : Int) * (X : Int)) = (P : Int) := by
        have : (Y : Int) * (X : Int) = (P : Int) := by rw [hP]; exact (Int.natCast_mul Y X).symm
        rw [this, IntKind.wrap_u64]; omega
      have f3 : IntKind.u64.wrap (Z0 : Int) = (Z0 : Int) := by rw [IntKind.wrap_u64]; omega
      have f4 : IntKind.u64.wrap ((P : Int) + (Z0 : Int)) = (P : Int) + (Z0 : Int) := by rw [IntKind.wrap_u64]; omega
      have f5 : IntKind.u64.wrap ((C : Int) + ((P : Int) + (Z0 : Int))) = (S : Int) := by rw [IntKind.wrap_u64]; omega
      obtain ⟨Z, hZ⟩ : ∃ Z : Nat, Z = S % 4294967296 := ⟨_, rfl⟩
      obtain ⟨C', hC2⟩ : ∃ C' : Nat, C' = S / 4294967296 := ⟨_, rfl⟩
      have f6 : IntKind.u32.wrap (S : Int) = (Z : Int) := by rw [IntKind.wrap_u32]; omega
      have f7 : (S : Int) / 4294967296 = (C' : Int) := by omega
      rw [← hZ, ← hC2] at hst
      have hC' : C' < 4294967296 := by omega
      have hw2 : Wd (us.set (i + k) (Z : Int)) := hwu.set (i + k) Z (by omega)
      have hl2 : (us.set (i + k) (Z : Int)).length = n := by rw [List.length_set]; exact hul
      have hsam2 : ∀ j, i + (k + 1) ≤ j → (us.set (i + k) (Z : Int)).getD j 0 = zs.getD j 0 := fun j h1 => by
        rw [← hsam j (by omega)]; simp [List.getD, show ¬ i + k = j from by omega]
      have hik : i + k < us.length := by omega
      have i0 : (0 : Int) ≤ (k : Int) := by omega
      have i1 : (k : Int) < (M : Int) := by omega
      clear hc' HY HW HZ hwy hM hY hZ0 hZ hC2 hS hv hP hg2 wy wz hwu hC hsam hul hmw
      go_wp2
      refine wp_region_kp (by kernel_rfl) (by kernel_rfl) (fun ι _ G hG hall => ?_)
      have c0 : ∀ n, (G n).cell? ⟨g, i + k, none⟩ = some (.int .u32 (Z0 : Int)) := fun n => kkeep (hG n) e1
      have c1 : ∀ n, (G n).cell? ⟨b', off' + k, none⟩ = some (.int .u32 (Y : Int)) := fun n => kkeep (hG n) e2
      repeat (go_big_quiet_step (fail))
      refine wpQuiet_nil ?_
      rintro _ ⟨nq, rfl⟩
      have gq := hG nq
      replace hrow := hrow.grown gq
      have e3 := World.rowIs.cell hrow (i := i + k) (by have := hrow; omega)
      have e4 := World.rowIs.frozen hrow (i + k)
      have hR := hrow.set (i + k) (Z : Int) hik
      have hK := (hkb.kp2 gq).setCell (i + k) (.int .u32 (Z : Int))
      clear c0 c1 hall hG gq e1 e2 hrow hkb
      go_wp2
      exact ⟨⟨k + 1, C', us.set (i + k) (Z : Int), rfl, by go_num, by omega, hR, hl2, hw2, hC', hst, hsam2, hK⟩, by simp [intOf]; omega⟩
    · have hkM : k = M := by omega
      subst hkM
      rw [hM, List.take_length, ← hM] at hv
      have i2 : ¬ ((k : Int) < (k : Int)) := by omega
      have f6 : IntKind.u32.wrap (C : Int) = (C : Int) := by rw [IntKind.wrap_u32]; omega
      clear HY HW HZ hwy hM hk ck
      go_wp2
      exact bodyPost_ret (v := .int .u32 (C : Int)) (by simp [results, Tryz.results163, go_sem] <;> simp only [*]) rfl ⟨C, rfl, us, hrow, hul, hwu, hC, hv, hsam, hkb⟩
end Go.Proofs.YteedfmghgkmofaaGreatDoor
