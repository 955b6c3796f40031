import Derived.Test.YtinohggonicjhaaGreatDoorKBY
import Derived.Test.YtinohggonicjhaaGreatDoorKXNM
namespace Go.Proofs.YtinohggonicjhaaGreatDoor
open Go.RowKit
set_option maxRecDepth 20000 in
theorem leftR (v : Value) (a m : Nat) (w : World) (h : Ls w v (dig a)) (l : blen a ≤ 16777216) (hm : m ≤ 16777216) :
    Calls Tryz.prog 95 #[v, .int .i64 (m : Int)] w fun e w' => ∃ v', e = .returned v' ∧ Ls w' v' (dig (a * 2 ^ m)) ∧ Kp w w' := by
  obtain ⟨p, c, rfl, hA, hc⟩ := h
  have h := rleft_ p c m (dig a) w hA (Wd_dig a) (Nat.le_trans (dlen a 524288 (by omega)) (by omega)) hm
  rw [val_dig] at h
  exact h.mono fun e w' ⟨v, h1, h2, h3⟩ => ⟨v, h1, h2.ls, h3⟩
set_option maxRecDepth 20000 in
theorem cmpR (v1 v2 : Value) (a b : Nat) (w : World) (h1 : Ls w v1 (dig a)) (h2 : Ls w v2 (dig b)) (l1 : blen a ≤ 33554432) (l2 : blen b ≤ 33554432) :
    Calls Tryz.prog 94 #[v1, v2] w fun e w' => e = .returned (.int .i64 (cmpN a b)) ∧ Kp w w' := by
  obtain ⟨p, c, rfl, hA, hc⟩ := h1
  obtain ⟨q, d, rfl, hB, hd⟩ := h2
  have e1 := dlen a 1048576 (by omega)
  have e2 := dlen b 1048576 (by omega)
  have h := rcmp_ p q c d (dig a) (dig b) w hA hB (Wd_dig a) (Wd_dig b) (by omega) (by omega)
  rw [val_dig, val_dig] at h
  exact h
set_option maxRecDepth 20000 in
theorem lenR (v : Value) (a : Nat) (w : World) (h : Ls w v (dig a)) (l : blen a ≤ 33554432) :
    Calls Tryz.prog 93 #[v] w fun e w' => e = .returned (.int .i64 (blen a : Nat)) ∧ w' = w := by
  obtain ⟨p, c, rfl, hA, hc⟩ := h
  have e1 := dlen a 1048576 (by omega)
  have h := rlen_ p c (dig a) w hA (Wd_dig a) (by omega)
  rw [val_dig] at h
  exact h
set_option maxRecDepth 20000 in
theorem normR (v : Value) (L : List Int) (w : World) (h : Ls w v L) (hw : Wd L) (l : L.length ≤ 1048576) :
    Calls Tryz.prog 132 #[v] w fun e w' => ∃ v', e = .returned v' ∧ Ls w' v' (dig (val L)) ∧ Kp w w' := by
  obtain ⟨p, c, rfl, hA, hc⟩ := h
  have h := rnorm_ p c L w hA (by omega)
  rw [nz_dig L hw] at h
  exact h.mono fun e w' ⟨v, h1, h2, h3⟩ => ⟨v, h1, h2.ls, h3⟩
set_option maxRecDepth 20000 in
theorem wordR (v : Value) (a : Nat) (w : World) (h : Ls w v (dig a)) (l : a < 18446744073709551616) :
    Calls Tryz.prog 99 #[v] w fun e w' => e = .returned (.tuple #[.int .u64 (a : Int), .bool true]) ∧ w' = w := by
  obtain ⟨p, c, rfl, hA, hc⟩ := h
  have hl : len32 a ≤ 2 := by
    by_cases c : len32 a ≤ 2
    · exact c
    · exfalso
      have := len32_lt a 2 (by omega)
      omega
  have hl2 : (dig a).length ≤ 2 := hl
  have h := rword_ p c (dig a) w hA (Wd_dig a) (by omega)
  rw [val_dig] at h
  unfold wordN at h
  rw [if_neg (by omega)] at h
  exact h
set_option maxRecDepth 20000 in
theorem byR (v1 v2 : Value) (a b : Nat) (w : World) (h1 : Ls w v1 (dig a)) (h2 : Ls w v2 (dig b)) (l1 : blen a ≤ 33554432) (l2 : blen b ≤ 8388608) (h0 : 0 < b) :
    Calls Tryz.prog 98 #[v1, v2] w fun e w' => ∃ q r, e = .returned (.tuple #[q, r]) ∧ Ls w' q (dig (a / b)) ∧ Ls w' r (dig (a % b)) ∧ Kp w w' := by
  obtain ⟨p, c, rfl, hA, hc⟩ := h1
  obtain ⟨q, d, rfl, hB, hd⟩ := h2
  have e1 := dlen a 1048576 (by omega)
  have e2 := dlen b 262144 (by omega)
  have h := rby_ p q c d (dig a) (dig b) w hA hB (Wd_dig a) (Wd_dig b) e1 (by omega) (by rw [tl_dig]; exact e2) (by rw [val_dig]; exact h0)
  rw [val_dig, val_dig] at h
  exact h.mono fun e w' ⟨v, he, ⟨p1, c1, p2, c2, e2, o1, o2, _⟩, hk⟩ => ⟨_, _, by rw [he, e2], o1.ls, o2.ls, hk⟩
set_option maxRecDepth 20000 in
set_option maxHeartbeats 1000000 in
theorem rtimes_ (p q : Option Addr) (c d : Nat) (xs ys : List Int) (w : World) (hx : Arr w p xs) (hy : Arr w q ys) (hwx : Wd xs) (hwy : Wd ys) (lx : xs.length ≤ 16777216) (ly : ys.length ≤ 16777216) :
    Calls Tryz.prog 116 #[.slice p xs.length c, .slice q ys.length d] w fun e w' => ∃ v, e = .returned v ∧ Own w' w.heap.size v (dig (val xs * val ys)) ∧ Kp w w' := by
  have h1 := words_ p c xs w hx (by omega)
  have h2 := words_ q d ys w hy (by omega)
  have lS := tl_le xs
  have lT := tl_le ys
  have hvx := val_tl xs
  have hvy := val_tl ys
  obtain ⟨N, hN⟩ : ∃ N, N = xs.length := ⟨_, rfl⟩
  obtain ⟨M, hM⟩ : ∃ M, M = ys.length := ⟨_, rfl⟩
  obtain ⟨S, hS⟩ : ∃ S, S = tl xs := ⟨_, rfl⟩
  obtain ⟨T, hT⟩ : ∃ T, T = tl ys := ⟨_, rfl⟩
  rw [← hS] at h1 lS hvx
  rw [← hT] at h2 lT hvy
  have hmk : ∀ w : World, (Instr.makeSlice 46 (.int .i64 ((S : Int) + (T : Int))) (.int .i64 ((S : Int) + (T : Int)))).run Tryz.prog w = .ok (.slice (some ⟨w.heap.size, 0, none⟩) (S + T) (S + T)) (w.alloc (.cells (madeCells #[.int .u32 0] (S + T)) 107)) := by
    have := mk32 (S + T) (by omega)
    simpa using this
  have hk1 : Kp w (w.alloc (.cells (madeCells #[.int .u32 0] (S + T)) 107)) := (Kp.refl w).alloc _
  have hrz : Rw (w.alloc (.cells (madeCells #[.int .u32 0] (S + T)) 107)) w.heap.size (S + T) (List.replicate (S + T) 0) := World.rowIs.congr (World.rowIs_made w (.int .u32 0) (S + T) 107) (fun j _ => by rw [rep0_getD])
  obtain ⟨zs0, hz0⟩ : ∃ zs0, zs0 = List.replicate (S + T) (0 : Int) := ⟨_, rfl⟩
  have hzl0 : zs0.length = S + T := by rw [hz0]; simp
  have hwz0 : Wd zs0 := by rw [hz0]; exact Wd_rep0 _
  have hzz0 : ∀ j, zs0.getD j 0 = 0 := fun j => by rw [hz0]; exact rep0_getD _ _
  have hvz0 := val_zeros zs0 hzz0
  rw [← hz0] at hrz
  have HX : Hid (Arr w p xs ∧ Wd xs ∧ val (xs.take S) = val xs) := ⟨hx, hwx, hvx⟩
  have HY : Hid (Arr w q ys ∧ Wd ys ∧ val (ys.take T) = val ys) := ⟨hy, hwy, hvy⟩
  have HN : Hid (N = xs.length ∧ M = ys.length) := ⟨hN, hM⟩
  obtain ⟨g, hg⟩ : ∃ g, g = w.heap.size := ⟨_, rfl⟩
  rw [← hg] at hrz
  have HG : Hid (g = w.heap.size) := hg
  rw [← hN] at lx h1 lS ⊢
  rw [← hM] at ly h2 lT ⊢
  clear hx hy hwx hwy hN hM hz0 hS hT hvx hvy
  go_enter Tryz.func116, Tryz.ntmps116
  go_wp2_with fail
  refine h1.mono ?_; rintro e w' ⟨rfl, hw'⟩; obtain rfl := hw'.symm
  go_wp2_with fail
  refine h2.mono ?_; rintro e w' ⟨rfl, hw'⟩; obtain rfl := hw'.symm
  go_wp2
  rw [← hg]
  clear hmk hg h1 h2
  go_loopw [8] (fun i wr => ∃ (k : Nat) (zs : List Int), i = .int .i64 k ∧ k ≤ T ∧ Rw wr g (S + T) zs ∧ zs.length = S + T ∧ Wd zs ∧ val zs = val (ys.take k) * val xs ∧ (∀ j, k + S ≤ j → zs.getD j 0 = 0) ∧ Kp w wr) (fun i _ => T - (intOf i).toNat)
  case atStart => exact ⟨0, zs0, rfl, Nat.zero_le _, hrz, hzl0, hwz0, by rw [hvz0]; simp [val], fun j _ => hzz0 j, hk1⟩
  case round =>
    clear hrz hzl0 hwz0 hzz0 hvz0 hk1
    obtain ⟨k, zs, rfl, hk, hrow, hzl, hwz, hv, hzz, hkp⟩ := hrel
    obtain ⟨hN, hM⟩ := HN.out
    by_cases ck : k < T
    · obtain ⟨b, off, rfl, hc⟩ := HY.out.1.at (k := k) (by omega)
      have e0 := hc k (by omega)
      have e1 := kkeep hkp e0
      have wy := HY.out.2.1 k
      have hrp := row_prod ys k (val xs)
      obtain ⟨Y, hY⟩ : ∃ Y : Nat, (Y : Int) = ys.getD k 0 := ⟨(ys.getD k 0).toNat, by omega⟩
      rw [← hY] at e1 wy hrp
      rw [Int.toNat_natCast] at hrp
      have i0 : (0 : Int) ≤ (k : Int) := by omega
      have i1 : (k : Int) < (T : Int) := by omega
      have i1' : (k : Int) < (M : Int) := by omega
      by_cases cY : Y = 0
      · subst cY
        have hv2 : val zs = val (ys.take (k + 1)) * val xs := by rw [← hrp, hv]; simp
        have t1 : (((0 : Nat) : Int) == 0) = true := by simp
        clear hc e0 HX HY HN HG hN hM hY wy hrp hv
        go_wp2
        exact ⟨⟨k + 1, zs, by go_num, by omega, hrow, hzl, hwz, hv2, fun j hj => hzz j (by omega), hkp⟩, by simp [intOf]; omega⟩
      · have t1 : ((Y : Int) == 0) = false := by simp; omega
        have fY : IntKind.u64.wrap (Y : Int) = (Y : Int) := by rw [IntKind.wrap_u64]; omega
        have hY32 : Y < 4294967296 := by omega
        have HV : Hid (val zs + val xs * Y * 4294967296 ^ k = val (ys.take (k + 1)) * val xs ∧ (∀ j, k + S ≤ j → zs.getD j 0 = 0)) := ⟨by rw [hv]; exact hrp, hzz⟩
        clear hc e0 HY hN hM hY wy hrp hv hzz
        go_wp2
        clear t1 fY
        go_loopw [10, 11] (fun cc ii wq => ∃ (m C : Nat) (us : List Int), cc = .int .u64 (C : Int) ∧ ii = .int .i64 m ∧ m ≤ S ∧ Rw wq g (S + T) us ∧ us.length = S + T ∧ Wd us ∧ C < 4294967296 ∧ val us + C * 4294967296 ^ (k + m) = val zs + val (xs.take m) * Y * 4294967296 ^ k ∧ (∀ j, k + m ≤ j → us.getD j 0 = zs.getD j 0) ∧ Kp w wq) (fun _ i _ => S - (intOf i).toNat)
        case atStart => exact ⟨0, 0, zs, rfl, rfl, Nat.zero_le _, hrow, hzl, hwz, by omega, by simp [val], fun j _ => rfl, hkp⟩
        case round =>
          clear hrow hwz hkp e1
          obtain ⟨m, C, us, rfl, rfl, hm, hrow, hul, hwu, hC, hv, hsam, hkp⟩ := hrel
          obtain ⟨hN, hM⟩ := HN.out
          by_cases cm : m < S
          · obtain ⟨b', off', rfl, hc'⟩ := HX.out.1.at (k := m) (by omega)
            have e2 := kkeep hkp (hc' m (by omega))
            have e1 := World.rowIs.cell hrow (i := m + k) (by omega)
            have wx := HX.out.2.1 m
            have wz := hwu (m + k)
            obtain ⟨X, hX⟩ : ∃ X : Nat, (X : Int) = xs.getD m 0 := ⟨(xs.getD m 0).toNat, by omega⟩
            obtain ⟨Z0, hZ0⟩ : ∃ Z0 : Nat, (Z0 : Int) = us.getD (m + k) 0 := ⟨(us.getD (m + k) 0).toNat, by omega⟩
            rw [← hX] at e2
            rw [← hZ0] at e1
            have hmw := mul_word X Y C Z0 (by omega) hY32 hC (by omega)
            obtain ⟨P, hP⟩ : ∃ P, P = X * Y := ⟨_, rfl⟩
            rw [← hP] at hmw
            obtain ⟨Q, hQ⟩ : ∃ Q : Nat, Q = (Z0 : Int).toNat + ((P : Nat) : Int).toNat + C := ⟨_, rfl⟩
            rw [Nat.add_comm m k] at hZ0
            have hst := sum_step us (k + m) C Q _ (Z0 : Int) (P : Int) (by omega) hZ0.symm hQ hv
            simp only [Int.toNat_natCast] at hQ hst
            have hg2 := mul_grow xs Y k m
            rw [← hX, Int.toNat_natCast, ← hP] at hg2
            rw [Nat.add_assoc (val zs), ← hg2, Nat.add_assoc k m 1] at hst
            have f1 : IntKind.u64.wrap (X : Int) = (X : Int) := by rw [IntKind.wrap_u64]; omega
            have f2 : IntKind.u64.wrap ((X : Int) * (Y : Int)) = (P : Int) := by
              have : (X : Int) * (Y : Int) = (P : Int) := by rw [hP]; exact (Int.natCast_mul X Y).symm
              rw [this, IntKind.wrap_u64]; omega
            have f3 : IntKind.u64.wrap (Z0 : Int) = (Z0 : Int) := by rw [IntKind.wrap_u64]; omega
            have f4 : IntKind.u64.wrap ((C : Int) + (Z0 : Int)) = (C : Int) + (Z0 : Int) := by rw [IntKind.wrap_u64]; omega
            have f5 : IntKind.u64.wrap ((C : Int) + (Z0 : Int) + (P : Int)) = (Q : Int) := by rw [IntKind.wrap_u64]; omega
            have f8 := and32 Q (by omega)
            obtain ⟨Z, hZ⟩ : ∃ Z : Nat, Z = Q % 4294967296 := ⟨_, rfl⟩
            obtain ⟨C', hC2⟩ : ∃ C' : Nat, C' = Q / 4294967296 := ⟨_, rfl⟩
            rw [← hZ] at f8
            have f6 : IntKind.u32.wrap (Z : Int) = (Z : Int) := by rw [IntKind.wrap_u32]; omega
            have f7 : (Q : Int) / 4294967296 = (C' : Int) := by omega
            rw [← hZ, ← hC2] at hst
            have hC' : C' < 4294967296 := by omega
            have hw2 : Wd (us.set (m + k) (Z : Int)) := hwu.set (m + k) Z (by omega)
            have hl2 : (us.set (m + k) (Z : Int)).length = S + T := by rw [List.length_set]; exact hul
            have hsam2 : ∀ j, k + (m + 1) ≤ j → (us.set (m + k) (Z : Int)).getD j 0 = zs.getD j 0 := fun j h1 => by
              rw [← hsam j (by omega)]; simp [List.getD, show ¬ m + k = j from by omega]
            have ekm : k + m = m + k := Nat.add_comm k m
            rw [ekm] at hst
            clear ekm
            have hik : m + k < us.length := by omega
            have hik2 : m + k < S + T := by omega
            have j0 : (0 : Int) ≤ (m : Int) := by omega
            have j1 : (m : Int) < (S : Int) := by omega
            have j2 : (m : Int) < (N : Int) := by omega
            have j3 : (0 : Int) ≤ (m : Int) + (k : Int) := by omega
            have j4 : (m : Int) + (k : Int) < (S : Int) + (T : Int) := by omega
            have hgw : w.heap.size ≤ g := by rw [HG.out]; exact Nat.le_refl _
            clear hc' HX HN HG hN hM hX hZ0 hZ hC2 hQ hv hP hg2 wx wz hwu hC hsam hul hmw HV hzl
            go_wp2
            refine wp_region_kp (by kernel_rfl) (by kernel_rfl) (fun ι _ G hG hall => ?_)
            have c0 : ∀ n, (G n).cell? ⟨g, m + k, none⟩ = some (.int .u32 (Z0 : Int)) := fun n => kkeep (hG n) e1
            have c1 : ∀ n, (G n).cell? ⟨b', off' + m, none⟩ = some (.int .u32 (X : Int)) := fun n => kkeep (hG n) e2
            repeat (go_big_quiet_step (fail))
            refine wpQuiet_nil ?_
            rintro _ ⟨nq, rfl⟩
            have gq := hG nq
            replace hrow := hrow.grown gq
            have e3 := World.rowIs.cell hrow (i := m + k) hik2
            have e4 := World.rowIs.frozen hrow (m + k)
            have hR := hrow.set (m + k) (Z : Int) hik
            have hK := (hkp.trans gq).setCell (p := ⟨g, m + k, none⟩) hgw (.int .u32 (Z : Int))
            clear c0 c1 hall hG gq e1 e2 hrow hkp
            go_wp2
            exact ⟨⟨m + 1, C', us.set (m + k) (Z : Int), by go_num, by go_num, by omega, hR, hl2, hw2, hC', hst, hsam2, hK⟩, by simp [intOf]; omega⟩
          · have hmS : m = S := by omega
            subst hmS
            have hvx := HX.out.2.2
            rw [hvx] at hv
            obtain ⟨hV1, hV2⟩ := HV.out
            have hu0 : us.getD (k + m) 0 = 0 := by rw [hsam _ (Nat.le_refl _)]; exact hV2 _ (Nat.le_refl _)
            have hvs := val_set us (k + m) (C : Int) (by omega)
            rw [hu0, Int.toNat_natCast, hv, hV1] at hvs
            have hv3 : val (us.set (k + m) (C : Int)) = val (ys.take (k + 1)) * val xs := by simpa using hvs
            have hgw : w.heap.size ≤ g := by rw [HG.out]; exact Nat.le_refl _
            have hR := hrow.set (k + m) (C : Int) (by omega)
            have hK : Kp w (wr.setCell ⟨g, k + m, none⟩ (.int .u32 (C : Int))) := hkp.setCell hgw _
            have hw3 : Wd (us.set (k + m) (C : Int)) := hwu.set _ _ (by omega)
            have hl3 : (us.set (k + m) (C : Int)).length = m + T := by rw [List.length_set]; exact hul
            have hz3 : ∀ j, k + 1 + m ≤ j → (us.set (k + m) (C : Int)).getD j 0 = 0 := fun j hj => by
              have e1 : (us.set (k + m) (C : Int)).getD j 0 = us.getD j 0 := by simp [List.getD, show ¬ k + m = j from by omega]
              rw [e1, hsam j (by omega)]
              exact hV2 j (by omega)
            have e3 := World.rowIs.cell hrow (i := k + m) (by omega)
            have e4 := World.rowIs.frozen hrow (k + m)
            have f6 : IntKind.u32.wrap (C : Int) = (C : Int) := by rw [IntKind.wrap_u32]; omega
            have i2 : ¬ ((m : Int) < (m : Int)) := by omega
            have j3 : (0 : Int) ≤ (k : Int) + (m : Int) := by omega
            have j4 : (k : Int) + (m : Int) < (m : Int) + (T : Int) := by omega
            clear HX HN HG hN hM hv hvs hsam hkp hrow HV hV1 hV2 hvx hwu hul hu0 hC cm hm hzl
            go_wp2
            exact ⟨⟨k + 1, us.set (k + m) (C : Int), by go_num, by omega, hR, hl3, hw3, hv3, hz3, hK⟩, by simp [intOf]; omega⟩
    · have hkN : k = T := by omega
      subst hkN
      have hvy := HY.out.2.2
      rw [hvy] at hv
      have hA := hrow.arr (S + k) (Nat.le_refl _) (by omega)
      rw [List.take_of_length_le (by omega)] at hA
      have hno := rnorm_ (some ⟨g, 0, none⟩) (S + k) zs wr hA (by omega)
      rw [nz_dig zs hwz, hv, hzl, Nat.mul_comm] at hno
      have hsz := hkp.size
      have i2 : ¬ ((k : Int) < (k : Int)) := by omega
      clear hA hrow hzl hwz hv HX HY HN HG hN hM hzz hvy hk ck
      go_wp2_with fail
      refine hno.mono ?_
      rintro e w2 ⟨v2, rfl, hO2, hk2⟩
      clear hno
      go_wp2
      exact bodyPost_ret (v := v2) (by simp [results, Tryz.results116, go_sem] <;> simp only [*]) rfl ⟨v2, rfl, hO2.mono hsz, hkp.trans hk2⟩
theorem w64x (z : Int) (h0 : -1099511627776 ≤ z) (h1 : z ≤ 1099511627776) : wrap64 z = z := by unfold wrap64; omega
set_option maxRecDepth 20000 in
set_option maxHeartbeats 1000000 in
theorem made_ (neg : Bool) (sig : Nat) (e : Int) (w : World) (hs : sig ≤ 9007199254740992) (he : -1074 ≤ e) (he2 : e < 5000) (hb : blen (sig * 2 ^ (e + 1074).toNat) ≤ 2098) :
    Calls Tryz.prog 100 #[.bool neg, .int .u64 (sig : Int), .int .i64 e] w fun r w' => r = .returned (.int .u64 ((mdW neg (rgU 53 (sig * 2 ^ (e + 1074).toNat)) : Nat) : Int)) ∧ w' = w := by
  by_cases c0 : sig = 0
  · subst c0
    rw [Nat.zero_mul, rgU_zero]
    clear hb
    go_enter Tryz.func100, Tryz.ntmps100
    go_wp2
    exact bodyPost_ret (v := .int .u64 0) (by simp [results, Tryz.results100, go_sem]) rfl ⟨rfl, rfl⟩
  · have t0 : ¬ ((sig : Int) = 0) := by omega
    obtain ⟨U, hU⟩ : ∃ U, U = sig * 2 ^ (e + 1074).toNat := ⟨_, rfl⟩
    rw [← hU] at hb ⊢
    have HB : Hid (blen U ≤ 2098) := hb
    have j0 : MdI U sig e := ⟨c0, hs, he, by omega, hU.symm⟩
    clear hb hU c0 hs he
    go_enter Tryz.func100, Tryz.ntmps100
    go_wp2
    go_loop [1, 2] (fun a b => ∃ (s : Nat) (x : Int), a = .int .u64 (s : Int) ∧ b = .int .i64 x ∧ MdI U s x ∧ (x < 5000 ∨ s < 9007199254740992)) (fun a _ => (intOf a).toNat)
    case atStart => exact ⟨_, _, rfl, rfl, j0, Or.inl he2⟩
    case round =>
      clear j0 t0 he2
      obtain ⟨s, x, rfl, rfl, j1, hx⟩ := hrel
      obtain ⟨a1, a2, a3, a4, a5⟩ := id j1
      by_cases k1 : 9007199254740992 ≤ s
      · have t1 : 9007199254740992 ≤ (s : Int) := by omega
        obtain ⟨q, q2⟩ := j1.half (by omega) k1
        have f4 : s / 2 < s := by omega
        obtain ⟨h, hh⟩ : ∃ h, h = s / 2 := ⟨_, rfl⟩
        rw [← hh] at q q2 f4
        have f2 : (s : Int) / 2 = (h : Int) := by omega
        have f3 : wrap64 (x + 1) = x + 1 := w64x _ (by omega) (by omega)
        have Q : Hid ((MdI U h (x + 1) ∧ h < 9007199254740992) ∧ h < s) := ⟨⟨q, q2⟩, f4⟩
        clear a1 a2 a3 a4 a5 j1 hx q q2 k1 f4 hh
        go_wp2
        exact ⟨⟨h, x + 1, rfl, by rw [f3], Q.out.1.1, Or.inr Q.out.1.2⟩, by simp only [intOf, Int.toNat_natCast]; exact Q.out.2⟩
      · have j2 : s < 9007199254740992 := by omega
        have t1 : ¬ (9007199254740992 ≤ (s : Int)) := by omega
        have t2 : ¬ (x < -1074) := by omega
        have f1 : bits BinOp.and IntKind.u64 (s : Int) 1 = ((s % 2 : Nat) : Int) := by
          have := u64_and_nat s 1 (by omega) (by omega)
          rw [Nat.and_one_is_mod] at this
          exact this
        clear a1 a2 a3 a4 a5 hx k1
        rcases (by omega : s % 2 = 0 ∨ s % 2 = 1) with cp | cp
        · rw [cp] at f1
          have HJ : Hid (MdI U s x ∧ s < 9007199254740992) := ⟨j1, j2⟩
          clear cp j1 j2
          go_wp2
          obtain ⟨j1, j2⟩ := HJ.out
          clear f1 t1 t2 HJ
          go_loop [1, 2] (fun a b => ∃ (s : Nat) (x : Int), a = .int .u64 (s : Int) ∧ b = .int .i64 x ∧ MdI U s x ∧ s < 9007199254740992) (fun _ b => (intOf b + 1074).toNat)
          case atStart => exact ⟨_, _, rfl, rfl, j1, j2⟩
          case round =>
            clear j1 j2
            obtain ⟨s, x, rfl, rfl, hj, hs⟩ := hrel
            obtain ⟨a1, a2, a3, a4, a5⟩ := id hj
            by_cases k1 : s < 4503599627370496
            · have t1 : (s : Int) < 4503599627370496 := by omega
              by_cases k2 : -1074 < x
              · have q := hj.dbl k1 k2
                have q2 : 2 * s < 9007199254740992 := by omega
                have f2 : IntKind.u64.wrap ((s : Int) * 2) = ((2 * s : Nat) : Int) := by rw [IntKind.wrap_u64]; omega
                have f3 : wrap64 (x - 1) = x - 1 := w64x _ (by omega) (by omega)
                have f4 : (x - 1 + 1074).toNat < (x + 1074).toNat := by omega
                have Q : Hid (MdI U (2 * s) (x - 1) ∧ 2 * s < 9007199254740992) := ⟨q, q2⟩
                clear a1 a2 a3 a4 a5 hj hs q q2 k1
                go_wp2
                exact ⟨⟨2 * s, x - 1, by first | rw [f2] | exact congrArg _ (by omega), by rw [f3], Q.out.1, Q.out.2⟩, by simp only [intOf, f3]; exact f4⟩
              · obtain ⟨r1, r2⟩ := hj.low k1 (by omega)
                have HM : Hid (rgU 53 U = s) := r1
                have HM0 : Hid (s ≠ 0) := a1
                have hor : ((s : Nat) : Nat) ||| 9223372036854775808 = 9223372036854775808 + s := by
                  have := or_low s 1 63 (by rw [show (2 : Nat) ^ 63 = 9223372036854775808 from by decide]; omega)
                  rw [show 1 * 2 ^ 63 = 9223372036854775808 from by decide] at this
                  omega
                obtain ⟨m, hm⟩ : ∃ m, m = s := ⟨_, rfl⟩
                subst hm
                obtain ⟨Z, hZ⟩ : ∃ Z, Z = 9223372036854775808 + m := ⟨_, rfl⟩
                have fo : bits BinOp.or IntKind.u64 (m : Int) 9223372036854775808 = (Z : Int) := by
                  have := u64_or_nat m 9223372036854775808 (by omega) (by decide)
                  rw [hor, ← hZ] at this
                  exact this
                have HZ : Hid (mdW true m = Z) := by show _ = _; rw [hZ]; unfold mdW; rw [if_neg HM0.out, if_pos rfl]
                have HN : Hid (mdW false m = m) := by show _ = _; unfold mdW; rw [if_neg HM0.out]; rfl
                clear hZ
                have t1b : ¬ (4503599627370496 ≤ (m : Int)) := by omega
                clear a1 a2 a3 a4 a5 hj hs k1 r1 r2 hor
                by_cases cn : neg = true
                · subst cn
                  go_wp2
                  exact bodyPost_ret (v := .int .u64 (Z : Int)) (by simp [results, Tryz.results100, go_sem]) rfl ⟨by rw [HM.out, HZ.out], rfl⟩
                · have cn2 : neg = false := by simpa using cn
                  subst cn2
                  clear cn
                  go_wp2
                  exact bodyPost_ret (v := .int .u64 (m : Int)) (by simp [results, Tryz.results100, go_sem]) rfl ⟨by rw [HM.out, HN.out], rfl⟩
            · have t1 : ¬ ((s : Int) < 4503599627370496) := by omega
              have t1b : 4503599627370496 ≤ (s : Int) := by omega
              obtain ⟨r0, r1, r2, r3⟩ := hj.top (by omega) hs HB.out
              obtain ⟨m, hm⟩ : ∃ m, m = rgU 53 U := ⟨_, rfl⟩
              rw [← hm] at r1 r2 r3
              have HM : Hid (rgU 53 U = m) := hm.symm
              have HM0 : Hid (m ≠ 0) := r3
              have hor : m ||| 9223372036854775808 = 9223372036854775808 + m := by
                have := or_low m 1 63 (by rw [show (2 : Nat) ^ 63 = 9223372036854775808 from by decide]; omega)
                rw [show 1 * 2 ^ 63 = 9223372036854775808 from by decide] at this
                omega
              obtain ⟨Z, hZ⟩ : ∃ Z, Z = 9223372036854775808 + m := ⟨_, rfl⟩
              have fo : bits BinOp.or IntKind.u64 (m : Int) 9223372036854775808 = (Z : Int) := by
                have := u64_or_nat m 9223372036854775808 (by omega) (by decide)
                rw [hor, ← hZ] at this
                exact this
              have HZ : Hid (mdW true m = Z) := by show _ = _; rw [hZ]; unfold mdW; rw [if_neg HM0.out, if_pos rfl]
              have HN : Hid (mdW false m = m) := by show _ = _; unfold mdW; rw [if_neg HM0.out]; rfl
              clear hZ
              obtain ⟨y, hy⟩ : ∃ y : Nat, (y : Int) = x + 1075 := ⟨(x + 1075).toNat, by omega⟩
              obtain ⟨z, hz⟩ : ∃ z : Nat, z = s - 4503599627370496 := ⟨_, rfl⟩
              obtain ⟨y2, hy2⟩ : ∃ y2 : Nat, y2 = y * 4503599627370496 := ⟨_, rfl⟩
              rw [show (x + 1075).toNat = y from by omega, ← hz, ← hy2] at r1
              have f2 : IntKind.u64.wrap ((s : Int) - 4503599627370496) = (z : Int) := by rw [IntKind.wrap_u64]; omega
              have f3 : wrap64 (x + 1075) = (y : Int) := by rw [← hy]; exact w64x _ (by omega) (by omega)
              have f4 : IntKind.u64.wrap (y : Int) = (y : Int) := by rw [IntKind.wrap_u64]; omega
              have f5 : IntKind.u64.wrap ((y : Int) * 4503599627370496) = (y2 : Int) := by rw [IntKind.wrap_u64]; omega
              have f6 : IntKind.u64.wrap ((z : Int) + (y2 : Int)) = (m : Int) := by rw [IntKind.wrap_u64]; omega
              clear a1 a2 a3 a4 a5 hj hs k1 r0 r1 r2 r3 hor hm hy hz hy2
              by_cases cn : neg = true
              · subst cn
                go_wp2
                exact bodyPost_ret (v := .int .u64 (Z : Int)) (by simp [results, Tryz.results100, go_sem]) rfl ⟨by rw [HM.out, HZ.out], rfl⟩
              · have cn2 : neg = false := by simpa using cn
                subst cn2
                clear cn
                go_wp2
                exact bodyPost_ret (v := .int .u64 (m : Int)) (by simp [results, Tryz.results100, go_sem]) rfl ⟨by rw [HM.out, HN.out], rfl⟩
        · rw [cp] at f1
          have HJ : Hid (MdI U s x ∧ s < 9007199254740992) := ⟨j1, j2⟩
          clear cp j1 j2
          go_wp2
          obtain ⟨j1, j2⟩ := HJ.out
          clear f1 t1 t2 HJ
          go_loop [1, 2] (fun a b => ∃ (s : Nat) (x : Int), a = .int .u64 (s : Int) ∧ b = .int .i64 x ∧ MdI U s x ∧ s < 9007199254740992) (fun _ b => (intOf b + 1074).toNat)
          case atStart => exact ⟨_, _, rfl, rfl, j1, j2⟩
          case round =>
            clear j1 j2
            obtain ⟨s, x, rfl, rfl, hj, hs⟩ := hrel
            obtain ⟨a1, a2, a3, a4, a5⟩ := id hj
            by_cases k1 : s < 4503599627370496
            · have t1 : (s : Int) < 4503599627370496 := by omega
              by_cases k2 : -1074 < x
              · have q := hj.dbl k1 k2
                have q2 : 2 * s < 9007199254740992 := by omega
                have f2 : IntKind.u64.wrap ((s : Int) * 2) = ((2 * s : Nat) : Int) := by rw [IntKind.wrap_u64]; omega
                have f3 : wrap64 (x - 1) = x - 1 := w64x _ (by omega) (by omega)
                have f4 : (x - 1 + 1074).toNat < (x + 1074).toNat := by omega
                have Q : Hid (MdI U (2 * s) (x - 1) ∧ 2 * s < 9007199254740992) := ⟨q, q2⟩
                clear a1 a2 a3 a4 a5 hj hs q q2 k1
                go_wp2
                exact ⟨⟨2 * s, x - 1, by first | rw [f2] | exact congrArg _ (by omega), by rw [f3], Q.out.1, Q.out.2⟩, by simp only [intOf, f3]; exact f4⟩
              · obtain ⟨r1, r2⟩ := hj.low k1 (by omega)
                have HM : Hid (rgU 53 U = s) := r1
                have HM0 : Hid (s ≠ 0) := a1
                have hor : ((s : Nat) : Nat) ||| 9223372036854775808 = 9223372036854775808 + s := by
                  have := or_low s 1 63 (by rw [show (2 : Nat) ^ 63 = 9223372036854775808 from by decide]; omega)
                  rw [show 1 * 2 ^ 63 = 9223372036854775808 from by decide] at this
                  omega
                obtain ⟨m, hm⟩ : ∃ m, m = s := ⟨_, rfl⟩
                subst hm
                obtain ⟨Z, hZ⟩ : ∃ Z, Z = 9223372036854775808 + m := ⟨_, rfl⟩
                have fo : bits BinOp.or IntKind.u64 (m : Int) 9223372036854775808 = (Z : Int) := by
                  have := u64_or_nat m 9223372036854775808 (by omega) (by decide)
                  rw [hor, ← hZ] at this
                  exact this
                have HZ : Hid (mdW true m = Z) := by show _ = _; rw [hZ]; unfold mdW; rw [if_neg HM0.out, if_pos rfl]
                have HN : Hid (mdW false m = m) := by show _ = _; unfold mdW; rw [if_neg HM0.out]; rfl
                clear hZ
                have t1b : ¬ (4503599627370496 ≤ (m : Int)) := by omega
                clear a1 a2 a3 a4 a5 hj hs k1 r1 r2 hor
                by_cases cn : neg = true
                · subst cn
                  go_wp2
                  exact bodyPost_ret (v := .int .u64 (Z : Int)) (by simp [results, Tryz.results100, go_sem]) rfl ⟨by rw [HM.out, HZ.out], rfl⟩
                · have cn2 : neg = false := by simpa using cn
                  subst cn2
                  clear cn
                  go_wp2
                  exact bodyPost_ret (v := .int .u64 (m : Int)) (by simp [results, Tryz.results100, go_sem]) rfl ⟨by rw [HM.out, HN.out], rfl⟩
            · have t1 : ¬ ((s : Int) < 4503599627370496) := by omega
              have t1b : 4503599627370496 ≤ (s : Int) := by omega
              obtain ⟨r0, r1, r2, r3⟩ := hj.top (by omega) hs HB.out
              obtain ⟨m, hm⟩ : ∃ m, m = rgU 53 U := ⟨_, rfl⟩
              rw [← hm] at r1 r2 r3
              have HM : Hid (rgU 53 U = m) := hm.symm
              have HM0 : Hid (m ≠ 0) := r3
              have hor : m ||| 9223372036854775808 = 9223372036854775808 + m := by
                have := or_low m 1 63 (by rw [show (2 : Nat) ^ 63 = 9223372036854775808 from by decide]; omega)
                rw [show 1 * 2 ^ 63 = 9223372036854775808 from by decide] at this
                omega
              obtain ⟨Z, hZ⟩ : ∃ Z, Z = 9223372036854775808 + m := ⟨_, rfl⟩
              have fo : bits BinOp.or IntKind.u64 (m : Int) 9223372036854775808 = (Z : Int) := by
                have := u64_or_nat m 9223372036854775808 (by omega) (by decide)
                rw [hor, ← hZ] at this
                exact this
              have HZ : Hid (mdW true m = Z) := by show _ = _; rw [hZ]; unfold mdW; rw [if_neg HM0.out, if_pos rfl]
              have HN : Hid (mdW false m = m) := by show _ = _; unfold mdW; rw [if_neg HM0.out]; rfl
              clear hZ
              obtain ⟨y, hy⟩ : ∃ y : Nat, (y : Int) = x + 1075 := ⟨(x + 1075).toNat, by omega⟩
              obtain ⟨z, hz⟩ : ∃ z : Nat, z = s - 4503599627370496 := ⟨_, rfl⟩
              obtain ⟨y2, hy2⟩ : ∃ y2 : Nat, y2 = y * 4503599627370496 := ⟨_, rfl⟩
              rw [show (x + 1075).toNat = y from by omega, ← hz, ← hy2] at r1
              have f2 : IntKind.u64.wrap ((s : Int) - 4503599627370496) = (z : Int) := by rw [IntKind.wrap_u64]; omega
              have f3 : wrap64 (x + 1075) = (y : Int) := by rw [← hy]; exact w64x _ (by omega) (by omega)
              have f4 : IntKind.u64.wrap (y : Int) = (y : Int) := by rw [IntKind.wrap_u64]; omega
              have f5 : IntKind.u64.wrap ((y : Int) * 4503599627370496) = (y2 : Int) := by rw [IntKind.wrap_u64]; omega
              have f6 : IntKind.u64.wrap ((z : Int) + (y2 : Int)) = (m : Int) := by rw [IntKind.wrap_u64]; omega
              clear a1 a2 a3 a4 a5 hj hs k1 r0 r1 r2 r3 hor hm hy hz hy2
              by_cases cn : neg = true
              · subst cn
                go_wp2
                exact bodyPost_ret (v := .int .u64 (Z : Int)) (by simp [results, Tryz.results100, go_sem]) rfl ⟨by rw [HM.out, HZ.out], rfl⟩
              · have cn2 : neg = false := by simpa using cn
                subst cn2
                clear cn
                go_wp2
                exact bodyPost_ret (v := .int .u64 (m : Int)) (by simp [results, Tryz.results100, go_sem]) rfl ⟨by rw [HM.out, HN.out], rfl⟩
theorem greG (sig P x s G : Nat) (hb : blen sig = P) (h0 : sig ≠ 0) (hP : P ≤ 53) (hs : s = min (53 - P) x) (hG : (x - s) * 4503599627370496 + sig * 2 ^ s = G) (hx : P + x ≤ 2098) : rgU 53 (sig * 2 ^ x) = G ∧ blen (sig * 2 ^ x) ≤ 2098 := by
  have h := rgU_mul 53 sig x s h0 (by rw [hb]; exact hs) (by rw [hb]; exact hP)
  rw [show (2 : Nat) ^ (53 - 1) = 4503599627370496 from by decide, hG] at h
  exact ⟨h, by rw [blen_mul _ _ h0, hb]; exact hx⟩
set_option maxRecDepth 20000 in
set_option maxHeartbeats 400000 in
theorem rinf_ (neg : Bool) (w : World) : Calls Tryz.prog 96 #[.bool neg] w fun e w' => e = .returned (.int .u64 ((mdW neg 9218868437227405312 : Nat) : Int)) ∧ w' = w := by
  cases neg
  · rw [show ((mdW false 9218868437227405312 : Nat) : Int) = 9218868437227405312 from rfl]
    go_enter Tryz.func96, Tryz.ntmps96
    go_wp2
    exact bodyPost_ret (v := .int .u64 9218868437227405312) (by simp [results, Tryz.results96, go_sem]) rfl ⟨rfl, rfl⟩
  · rw [show ((mdW true 9218868437227405312 : Nat) : Int) = 18442240474082181120 from rfl]
    go_enter Tryz.func96, Tryz.ntmps96
    go_wp2
    exact bodyPost_ret (v := .int .u64 18442240474082181120) (by simp [results, Tryz.results96, go_sem]) rfl ⟨rfl, rfl⟩
set_option maxRecDepth 20000 in
set_option maxHeartbeats 400000 in
theorem rgreD_ (neg : Bool) (w : World) : Calls Tryz.prog 97 #[.bool neg, .int .i64 53, .int .i64 1023] w fun e w' => e = .returned (.int .u64 ((mdW neg 9218868437227405311 : Nat) : Int)) ∧ w' = w := by
  obtain ⟨x, hx⟩ : ∃ x : Int, x = 971 := ⟨_, rfl⟩
  have hg := greG 9007199254740991 53 (x + 1074).toNat 0 9218868437227405311 (blen_uniq 9007199254740991 52 (by decide) (by decide)) (by decide) (by decide) (by omega) (by omega) (by omega)
  have hm := made_ neg 9007199254740991 x w (by decide) (by omega) (by omega) hg.2
  rw [hg.1, hx] at hm
  obtain ⟨Z, hZ⟩ : ∃ Z, Z = mdW neg 9218868437227405311 := ⟨_, rfl⟩
  rw [← hZ] at hm ⊢
  clear hZ
  have hm2 : Calls Tryz.prog 100 #[.bool neg, .int .u64 9007199254740991, .int .i64 971] w fun e w' => e = .returned (.int .u64 (Z : Int)) ∧ w' = w := hm
  clear hm
  go_enter Tryz.func97, Tryz.ntmps97
  go_wp2_with fail
  refine hm2.mono ?_; rintro e w' ⟨rfl, hw'⟩; obtain rfl := hw'.symm; clear hm2
  go_wp2
  exact bodyPost_ret (v := .int .u64 (Z : Int)) (by simp [results, Tryz.results97, go_sem]) rfl ⟨rfl, rfl⟩
set_option maxRecDepth 20000 in
set_option maxHeartbeats 400000 in
theorem rsign_ (neg : Bool) (vn vd : Value) (n : Nat) (w : World) (hn : Ls w vn (dig n)) (l : blen n ≤ 33554432) :
    Calls Tryz.prog 92 #[.agg #[.bool neg, vn, vd]] w fun e w' => e = .returned (.int .i64 (if n = 0 then 0 else if neg then -1 else 1)) ∧ Kp w w' := by
  obtain ⟨w0, hw0⟩ : ∃ w0, w0 = w.alloc (.cells #[.bool neg, vn, vd] 48) := ⟨_, rfl⟩
  have hk0 : Kp w w0 := by rw [hw0]; exact (Kp.refl w).alloc _
  have c0 : w0.cell? ⟨w.heap.size, 0, none⟩ = some (.bool neg) := by rw [hw0]; simp [go_sem]
  have hc := normR vn (dig n) w0 (hn.kp hk0) (Wd_dig n) (dlen n 1048576 (by omega))
  rw [val_dig] at hc
  have hlz := dig_len_zero n
  obtain ⟨M, hM⟩ : ∃ M, M = (dig n).length := ⟨_, rfl⟩
  have HM : Hid (M = (dig n).length) := hM
  rw [← hM] at hlz
  clear hn l hM
  by_cases cz : n = 0
  · have hM0 : M = 0 := hlz.2 cz
    rw [if_pos cz]
    clear hlz cz
    go_enter Tryz.func92, Tryz.ntmps92
    go_wp2_with fail
    rw [← hw0]
    refine hc.mono ?_; rintro e w1 ⟨v1, rfl, ⟨p1, c1, rfl, _, _⟩, hk⟩
    rw [← HM.out]
    subst hM0
    have K1 : Kp w w1 := hk0.trans hk
    clear hc hk hw0 hk0 c0
    go_wp2
    exact bodyPost_ret (v := .int .i64 0) (by simp [results, Tryz.results92, go_sem]) rfl ⟨rfl, K1⟩
  · have hM0 : ¬ ((M : Int) = 0) := by have := mt hlz.1 cz; omega
    rw [if_neg cz]
    clear hlz cz
    go_enter Tryz.func92, Tryz.ntmps92
    go_wp2_with fail
    rw [← hw0]
    refine hc.mono ?_; rintro e w1 ⟨v1, rfl, ⟨p1, c1, rfl, _, _⟩, hk⟩
    rw [← HM.out]
    have K1 : Kp w w1 := hk0.trans hk
    have c1' := kkeep hk c0
    clear hc hk hw0 hk0 c0
    cases neg
    · go_wp2
      exact bodyPost_ret (v := .int .i64 1) (by simp [results, Tryz.results92, go_sem]) rfl ⟨rfl, K1⟩
    · go_wp2
      exact bodyPost_ret (v := .int .i64 (-1)) (by simp [results, Tryz.results92, go_sem]) rfl ⟨rfl, K1⟩
end Go.Proofs.YtinohggonicjhaaGreatDoor
