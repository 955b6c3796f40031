import Derived.Test.YthdnajcgdngmcaaGreatDoorKW4
import Derived.WalkMore
namespace Go.Proofs.YthdnajcgdngmcaaGreatDoor
open Go.RowKit
set_option maxRecDepth 20000 in
set_option maxHeartbeats 1000000 in
theorem trial_ (head u v1 v0 : Nat) (h : TA head u v1 v0) (w : World) :
    Calls Tryz.prog 220 #[.int .u64 (head : Int), .int .u32 (u : Int), .int .u32 (v1 : Int), .int .u32 (v0 : Int)] w fun e w' => e = .returned (.int .u32 (trialN head u v1 v0 : Nat)) ∧ w' = w.drew := by
  obtain ⟨R, hR⟩ : ∃ R, R = trialN head u v1 v0 := ⟨_, rfl⟩
  rw [← hR]
  obtain ⟨b1, b2, b3, b4, b5⟩ := h.bounds
  obtain ⟨q0, hq0⟩ : ∃ q0, q0 = head / v1 := ⟨_, rfl⟩
  obtain ⟨r0, hr0⟩ : ∃ r0, r0 = head % v1 := ⟨_, rfl⟩
  have hI := TI.start h
  rw [← hq0, ← hr0] at hI
  have hIb := hI.bounds
  have HA : Hid (TA head u v1 v0 ∧ R = trialN head u v1 v0 ∧ TI head u v1 v0 q0 r0) := ⟨h, hR, hI⟩
  have fV1 : IntKind.u64.wrap (v1 : Int) = (v1 : Int) := by rw [IntKind.wrap_u64]; omega
  have fV0 : IntKind.u64.wrap (v0 : Int) = (v0 : Int) := by rw [IntKind.wrap_u64]; omega
  have fU : IntKind.u64.wrap (u : Int) = (u : Int) := by rw [IntKind.wrap_u64]; omega
  have fq : (head : Int) / (v1 : Int) = (q0 : Int) := by rw [hq0]; exact (Int.natCast_ediv head v1).symm
  have fr : (head : Int) % (v1 : Int) = (r0 : Int) := by rw [hr0]; exact (Int.natCast_emod head v1).symm
  have fq2 : Int.tdiv (head : Int) (v1 : Int) = (q0 : Int) := by rw [hq0]; rfl
  have fr2 : Int.tmod (head : Int) (v1 : Int) = (r0 : Int) := by rw [hr0]; rfl
  have t0 : ¬ v1 = 0 := by omega
  have fq3 : IntKind.u64.wrap (q0 : Int) = (q0 : Int) := by rw [IntKind.wrap_u64]; omega
  have fr3 : IntKind.u64.wrap (r0 : Int) = (r0 : Int) := by rw [IntKind.wrap_u64]; omega
  clear hR h hq0 hr0 hI hIb b1 b2 b3 b4 b5
  go_enter Tryz.func220, Tryz.ntmps220
  go_wp2
  go_step3
  go_wp2
  go_region
  clear fq fr fq2 fr2 fq3 fr3 t0
  go_wp2
  go_step3
  go_wp2
  go_loop [9, 10] (fun qq rr => ∃ q r : Nat, qq = .int .u64 (q : Int) ∧ rr = .int .u64 (r : Int) ∧ TI head u v1 v0 q r) (fun qq _ => (intOf qq).toNat)
  case atStart => exact ⟨q0, r0, rfl, rfl, HA.out.2.2⟩
  case round =>
    obtain ⟨q, r, rfl, rfl, hI⟩ := hrel
    obtain ⟨hA, hR, _⟩ := HA.out
    obtain ⟨b1, b2, b3, b4, b5⟩ := hA.bounds
    have hb := hI.bounds
    obtain ⟨rh, hrh⟩ : ∃ rh, rh = r / 4294967296 := ⟨_, rfl⟩
    have f1 : (r : Int) / 4294967296 = (rh : Int) := by omega
    by_cases cr : r < 4294967296
    · have hrh0 : rh = 0 := by omega
      subst hrh0
      obtain ⟨qh, hqh⟩ : ∃ qh, qh = q / 4294967296 := ⟨_, rfl⟩
      have f2 : (q : Int) / 4294967296 = (qh : Int) := by omega
      by_cases cq : 4294967296 ≤ q
      · have t2 : ¬ (qh = 0) := by omega
        obtain ⟨q1, hI2⟩ := TI.step hA hI cr (Or.inl cq)
        obtain ⟨q', hq'⟩ : ∃ q', q' = q - 1 := ⟨_, rfl⟩
        obtain ⟨r', hr'⟩ : ∃ r', r' = r + v1 := ⟨_, rfl⟩
        rw [← hq', ← hr'] at hI2
        have f5 : IntKind.u64.wrap ((q : Int) - 1) = (q' : Int) := by rw [IntKind.wrap_u64]; omega
        have f4 : IntKind.u64.wrap ((r : Int) + (v1 : Int)) = (r' : Int) := by rw [IntKind.wrap_u64]; omega
        have HN : Hid (TI head u v1 v0 q' r' ∧ q' < q) := ⟨hI2, by omega⟩
        clear HA hI hA hR b1 b2 b3 b4 b5 hb hrh cr hqh cq q1 hI2 hq' hr'
        go_wp2
        exact ⟨⟨q', r', rfl, rfl, HN.out.1⟩, by have := HN.out.2; simp [intOf]; omega⟩
      · have hqh0 : qh = 0 := by omega
        subst hqh0
        obtain ⟨P, hP⟩ : ∃ P, P = q * v0 := ⟨_, rfl⟩
        have hPb : P < 18446744073709551616 := by rw [hP]; exact mul64 (by omega) b3
        have f6 : IntKind.u64.wrap ((q : Int) * (v0 : Int)) = (P : Int) := by
          have e : (q : Int) * (v0 : Int) = (P : Int) := by rw [hP]; exact (Int.natCast_mul q v0).symm
          rw [e, IntKind.wrap_u64]; omega
        obtain ⟨S, hS⟩ : ∃ S, S = r * 4294967296 := ⟨_, rfl⟩
        obtain ⟨C, hC⟩ : ∃ C, C = r * 4294967296 + u := ⟨_, rfl⟩
        have f7 : IntKind.u64.wrap ((r : Int) * 4294967296) = (S : Int) := by rw [IntKind.wrap_u64]; omega
        have f8 : bits BinOp.or IntKind.u64 (S : Int) (u : Int) = (C : Int) := by
          rw [hS, bits_or_u64_nat (r * 4294967296) u (by omega) (by omega)]
          have e2 : r * 4294967296 ||| u = C := by
            rw [Nat.or_comm, hC]
            have := or_low u r 32 (by omega)
            rw [show (2 : Nat) ^ 32 = 4294967296 from rfl] at this
            omega
          rw [e2]
        by_cases cp : C < P
        · obtain ⟨q1, hI2⟩ := TI.step hA hI cr (Or.inr (by rw [← hC, ← hP]; exact cp))
          obtain ⟨q', hq'⟩ : ∃ q', q' = q - 1 := ⟨_, rfl⟩
          obtain ⟨r', hr'⟩ : ∃ r', r' = r + v1 := ⟨_, rfl⟩
          rw [← hq', ← hr'] at hI2
          have f5 : IntKind.u64.wrap ((q : Int) - 1) = (q' : Int) := by rw [IntKind.wrap_u64]; omega
          have f4 : IntKind.u64.wrap ((r : Int) + (v1 : Int)) = (r' : Int) := by rw [IntKind.wrap_u64]; omega
          have HN : Hid (TI head u v1 v0 q' r' ∧ q' < q) := ⟨hI2, by omega⟩
          have t3 : (C : Int) < (P : Int) := by omega
          clear HA hI hA hR b1 b2 b3 b4 b5 hb hrh cr hqh cq q1 hI2 hq' hr' hP hPb hS hC cp
          go_wp2
          exact ⟨⟨q', r', rfl, rfl, HN.out.1⟩, by have := HN.out.2; simp [intOf]; omega⟩
        · have hq := TI.stop hA hI (Or.inr ⟨by omega, by rw [← hC, ← hP]; omega⟩)
          rw [← hR] at hq
          subst hq
          have f9 : IntKind.u32.wrap (q : Int) = (q : Int) := by rw [IntKind.wrap_u32]; omega
          have t3 : ¬ (C : Int) < (P : Int) := by omega
          clear HA hI hA hR b1 b2 b3 b4 b5 hb hrh cr hqh cq hP hPb hS hC cp
          go_wp2
          exact bodyPost_ret (v := .int .u32 (q : Int)) (by simp [results, Tryz.results220, go_sem] <;> simp only [*]) rfl ⟨rfl, rfl⟩
    · have hq := TI.stop hA hI (Or.inl (by omega))
      rw [← hR] at hq
      subst hq
      have hlt := trialN_lt head u v1 v0
      rw [← hR] at hlt
      have f9 : IntKind.u32.wrap (q : Int) = (q : Int) := by rw [IntKind.wrap_u32]; omega
      have t3 : ¬ rh = 0 := by omega
      clear HA hI hA hR b1 b2 b3 b4 b5 hb hrh cr hlt
      go_wp2
      exact bodyPost_ret (v := .int .u32 (q : Int)) (by simp [results, Tryz.results220, go_sem] <;> simp only [*]) rfl ⟨rfl, rfl⟩
set_option maxRecDepth 20000 in
set_option maxHeartbeats 1000000 in
theorem sub32_ (x y b : Nat) (hx : x < 4294967296) (hy : y < 4294967296) (hb : b ≤ 1) (w : World) :
    Calls Tryz.prog 216 #[.int .u32 (x : Int), .int .u32 (y : Int), .int .u32 (b : Int)] w fun e w' => e = .returned (.tuple #[.int .u32 (((x + 8589934592 - y - b) % 4294967296 : Nat) : Int), .int .u32 ((if x < y + b then 1 else 0 : Nat) : Int)]) ∧ w' = w := by
  obtain ⟨d, hd⟩ : ∃ d, d = (x + 8589934592 - y - b) % 4294967296 := ⟨_, rfl⟩
  have hs := sub_borrow x y b d hx hy hb hd
  have hz : x ^^^ y < 4294967296 := Nat.xor_lt_two_pow (n := 32) hx hy
  obtain ⟨B, hB⟩ : ∃ B : Nat, B = if x < y + b then 1 else 0 := ⟨_, rfl⟩
  rw [← hd, ← hB]
  rw [← hB] at hs
  obtain ⟨d1, hd1⟩ : ∃ d1 : Nat, d1 = (x + 4294967296 - y) % 4294967296 := ⟨_, rfl⟩
  have f1 : IntKind.u32.wrap ((x : Int) - (y : Int)) = (d1 : Int) := by rw [IntKind.wrap_u32]; omega
  have f2 : IntKind.u32.wrap ((d1 : Int) - (b : Int)) = (d : Int) := by rw [IntKind.wrap_u32]; omega
  have g1 := u32_xor_nat x y hx hy
  have g2 := u32_and_nat (4294967295 - x) y (by omega) hy
  have g3 := u32_and_nat (4294967295 - (x ^^^ y)) d (by omega) (by omega)
  have l1 : (4294967295 - x) &&& y < 4294967296 := Nat.and_lt_two_pow (n := 32) _ hy
  have l2 : (4294967295 - (x ^^^ y)) &&& d < 4294967296 := Nat.and_lt_two_pow (n := 32) _ (by omega)
  have g4 := u32_or_nat _ _ l1 l2
  obtain ⟨z, hzz⟩ : ∃ z, z = x ^^^ y := ⟨_, rfl⟩
  rw [← hzz] at g1 g3 g4 hs hz l2
  obtain ⟨nx, hnx⟩ : ∃ nx, nx = 4294967295 - x := ⟨_, rfl⟩
  obtain ⟨nz', hnz⟩ : ∃ nz', nz' = 4294967295 - z := ⟨_, rfl⟩
  rw [← hnx] at g2 g4 hs l1
  rw [← hnz] at g3 g4 hs l2
  have n1 : bits BinOp.xor IntKind.u32 IntKind.u32.max (x : Int) = (nx : Int) := by
    have := u32_xor_nat 4294967295 x (by omega) hx
    rw [not32 x hx, ← hnx] at this
    exact this
  have n2 : bits BinOp.xor IntKind.u32 IntKind.u32.max (z : Int) = (nz' : Int) := by
    have := u32_xor_nat 4294967295 z (by omega) hz
    rw [not32 z hz, ← hnz] at this
    exact this
  obtain ⟨u1, hu1⟩ : ∃ u1, u1 = nx &&& y := ⟨_, rfl⟩
  obtain ⟨u2, hu2⟩ : ∃ u2, u2 = nz' &&& d := ⟨_, rfl⟩
  rw [← hu1] at g2 g4 hs
  rw [← hu2] at g3 g4 hs
  obtain ⟨u3, hu3⟩ : ∃ u3, u3 = u1 ||| u2 := ⟨_, rfl⟩
  rw [← hu3] at g4 hs
  have f3 : (u3 : Int) / 2147483648 = (B : Int) := by omega
  clear hd hB hd1 hzz hnx hnz hu1 hu2 hu3 hs hx hy hb hz l1 l2
  go_enter Tryz.func216, Tryz.ntmps216
  go_wp2
  exact bodyPost_ret (v := .tuple #[.int .u32 (d : Int), .int .u32 (B : Int)]) (by simp [results, Tryz.results216, go_sem] <;> simp only [*]) rfl ⟨rfl, rfl⟩
set_option maxRecDepth 20000 in
set_option maxHeartbeats 1000000 in
theorem subTimes_ (g n i c1 d X : Nat) (q : Option Addr) (zs ys : List Int) (w : World) (hr : Rw w g n zs) (hzl : zs.length = n) (hwz : Wd zs) (hy : Arr w q ys) (hwy : Wd ys) (hX : X < 4294967296) (hq : 0 < ys.length → ∀ b off, q = some ⟨b, off, none⟩ → b ≠ g) (hin : i + ys.length + 1 ≤ n) (hn : n ≤ 16777216) (hcc : ys.length + 1 ≤ c1) :
    Calls Tryz.prog 221 #[.slice (some ⟨g, i, none⟩) (ys.length + 1) c1, .slice q ys.length d, .int .u32 (X : Int)] w fun e w' => ∃ (O b : Nat) (us : List Int), e = .returned (.bool (decide ((zs.getD (i + ys.length) 0).toNat < O + b))) ∧ Rw w' g n us ∧ us.length = n ∧ Wd us ∧ O < 4294967296 ∧ b ≤ 1 ∧ val us + val ys * X * 4294967296 ^ i = val zs + (O + b) * 4294967296 ^ (i + ys.length) ∧ (∀ j, i + ys.length ≤ j → us.getD j 0 = zs.getD j 0) ∧ Kb g w w' := by
  obtain ⟨M, hM⟩ : ∃ M, M = ys.length := ⟨_, rfl⟩
  rw [← hM] at hin hcc ⊢
  have HY : Hid (Arr w q ys ∧ (0 < ys.length → ∀ b off, q = some ⟨b, off, none⟩ → b ≠ g)) := ⟨hy, hq⟩
  have HW : Hid (Wd ys ∧ M = ys.length) := ⟨hwy, hM⟩
  have HZ : Hid (Rw w g n zs ∧ zs.length = n ∧ Wd zs) := ⟨hr, hzl, hwz⟩
  have hX2 : IntKind.u64.wrap (X : Int) = (X : Int) := by rw [IntKind.wrap_u64]; omega
  clear hy hq hwy hM hr hzl hwz
  go_enter Tryz.func221, Tryz.ntmps221
  go_wp2
  go_loopw [7, 8, 12] (fun oo bb ii wr => ∃ (k O b : Nat) (us : List Int), oo = .int .u64 (O : Int) ∧ bb = .int .u32 (b : Int) ∧ ii = .int .i64 k ∧ k ≤ M ∧ Rw wr g n us ∧ us.length = n ∧ Wd us ∧ O < 4294967296 ∧ b ≤ 1 ∧ val us + val (ys.take k) * X * 4294967296 ^ i = val zs + (O + b) * 4294967296 ^ (i + k) ∧ (∀ j, i + k ≤ j → us.getD j 0 = zs.getD j 0) ∧ Kb g w wr) (fun _ _ i _ => M - (intOf i).toNat)
  case atStart => exact ⟨0, 0, 0, zs, rfl, rfl, rfl, Nat.zero_le _, HZ.out.1, HZ.out.2.1, HZ.out.2.2, by omega, by omega, by simp [val], fun j _ => rfl, Kb.refl _ _⟩
  case round =>
    obtain ⟨k, O, bo, us, rfl, rfl, rfl, hk, hrow, hul, hwu, hO, hbo, hv, hsam, hkb⟩ := hrel
    obtain ⟨hwy, hM⟩ := HW.out
    by_cases ck : k < M
    · obtain ⟨b', off', rfl, hc'⟩ := HY.out.1.at (k := k) (by omega)
      have hbg := HY.out.2 (by omega) b' off' rfl
      have e2 := hkb.arr hbg (hc' k (by omega))
      have e1 := World.rowIs.cell hrow (i := i + k) (by omega)
      have e4 := World.rowIs.frozen hrow (i + k)
      have wy := hwy k
      have wz := hwu (i + k)
      obtain ⟨Y, hY⟩ : ∃ Y : Nat, (Y : Int) = ys.getD k 0 := ⟨(ys.getD k 0).toNat, by omega⟩
      obtain ⟨Z0, hZ0⟩ : ∃ Z0 : Nat, (Z0 : Int) = us.getD (i + k) 0 := ⟨(us.getD (i + k) 0).toNat, by omega⟩
      rw [← hY] at e2
      rw [← hZ0] at e1
      have hmw := mul_word Y X O 0 (by omega) hX hO (by omega)
      obtain ⟨P, hP⟩ : ∃ P, P = Y * X := ⟨_, rfl⟩
      rw [← hP] at hmw
      have f1 : IntKind.u64.wrap (Y : Int) = (Y : Int) := by rw [IntKind.wrap_u64]; omega
      have f2 : IntKind.u64.wrap ((Y : Int) * (X : Int)) = (P : Int) := by
        have : (Y : Int) * (X : Int) = (P : Int) := by rw [hP]; exact (Int.natCast_mul Y X).symm
        rw [this, IntKind.wrap_u64]; omega
      obtain ⟨S, hS⟩ : ∃ S : Nat, S = O + P := ⟨_, rfl⟩
      have f3 : IntKind.u64.wrap ((O : Int) + (P : Int)) = (S : Int) := by rw [IntKind.wrap_u64]; omega
      obtain ⟨lw, hlw⟩ : ∃ lw : Nat, lw = S % 4294967296 := ⟨_, rfl⟩
      obtain ⟨H, hH⟩ : ∃ H : Nat, H = S / 4294967296 := ⟨_, rfl⟩
      have f4 : IntKind.u32.wrap (S : Int) = (lw : Int) := by rw [IntKind.wrap_u32]; omega
      have f5 : (S : Int) / 4294967296 = (H : Int) := by omega
      have had := sub32_ Z0 lw bo (by omega) (by omega) hbo
      obtain ⟨D, hD⟩ : ∃ D : Nat, D = (Z0 + 8589934592 - lw - bo) % 4294967296 := ⟨_, rfl⟩
      obtain ⟨B, hB⟩ : ∃ B : Nat, B = if Z0 < lw + bo then 1 else 0 := ⟨_, rfl⟩
      rw [← hD, ← hB] at had
      have hB1 : B ≤ 1 := by rw [hB]; split <;> omega
      have hst := subt_step us ys i k O bo B H lw D Y Z0 X _ (by omega) hZ0.symm (by rw [← hY, Int.toNat_natCast]) (by rw [← hP]; omega) (by rw [hD, hB]; split <;> omega) hv
      have hH32 : H < 4294967296 := by omega
      have hw2 : Wd (us.set (i + k) (D : Int)) := hwu.set (i + k) D (by omega)
      have hl2 : (us.set (i + k) (D : Int)).length = n := by rw [List.length_set]; exact hul
      have hsam2 : ∀ j, i + (k + 1) ≤ j → (us.set (i + k) (D : Int)).getD j 0 = zs.getD j 0 := fun j h1 => by
        rw [← hsam j (by omega)]; simp [List.getD, show ¬ i + k = j from by omega]
      have hR := hrow.set (i + k) (D : Int) (by omega)
      have hK := hkb.setCell (i + k) (.int .u32 (D : Int))
      have i0 : (0 : Int) ≤ (k : Int) := by omega
      have i1 : (k : Int) < (M : Int) := by omega
      have i2 : (k : Int) < (M : Int) + 1 := by omega
      clear hc' HY HW HZ hwy hM hY hZ0 hlw hH hS hv hP wy wz hwu hO hbo hsam hul hmw hD hB hrow hkb
      go_wp2_with (first | (go_at_call 216; refine (had _).mono ?_; rintro e w' ⟨rfl, hw'⟩; obtain rfl := hw'.symm))
      exact ⟨⟨k + 1, H, B, us.set (i + k) (D : Int), rfl, rfl, by go_num, by omega, hR, hl2, hw2, hH32, hB1, hst, hsam2, hK⟩, by simp [intOf]; omega⟩
    · obtain ⟨O', hO'⟩ : ∃ O', O' = O := ⟨_, rfl⟩
      obtain ⟨bo', hbo'⟩ : ∃ bo', bo' = bo := ⟨_, rfl⟩
      subst hO' hbo'
      have hkM : k = M := by omega
      subst hkM
      rw [hM, List.take_length, ← hM] at hv
      have wz := hwu (i + k)
      have e1 := World.rowIs.cell hrow (i := i + k) (by omega)
      obtain ⟨Z0, hZ0⟩ : ∃ Z0 : Nat, (Z0 : Int) = us.getD (i + k) 0 := ⟨(us.getD (i + k) 0).toNat, by omega⟩
      rw [← hZ0] at e1
      have hzz : (zs.getD (i + k) 0).toNat = Z0 := by rw [← hsam _ (Nat.le_refl _), ← hZ0, Int.toNat_natCast]
      have i2 : ¬ ((k : Int) < (k : Int)) := by omega
      have i3 : (k : Int) < (k : Int) + 1 := by omega
      have i0 : (0 : Int) ≤ (k : Int) := by omega
      have f1 : IntKind.u64.wrap (Z0 : Int) = (Z0 : Int) := by rw [IntKind.wrap_u64]; omega
      have f2 : IntKind.u64.wrap (bo' : Int) = (bo' : Int) := by rw [IntKind.wrap_u64]; omega
      have f3 : IntKind.u64.wrap ((O' : Int) + (bo' : Int)) = (O' : Int) + (bo' : Int) := by rw [IntKind.wrap_u64]; omega
      have hdec : decide ((Z0 : Int) < (O' : Int) + (bo' : Int)) = decide ((zs.getD (i + k) 0).toNat < O' + bo') := by
        rw [hzz]; by_cases e : Z0 < O' + bo' <;> simp [e] <;> omega
      clear HY HW HZ hwy hM hk ck wz hZ0 hzz
      have hfin : ∃ (O b : Nat) (us : List Int), Ending.returned (.bool (decide ((Z0 : Int) < (O' : Int) + (bo' : Int)))) = .returned (.bool (decide ((zs.getD (i + k) 0).toNat < O + b))) ∧ Rw wr g n us ∧ us.length = n ∧ Wd us ∧ O < 4294967296 ∧ b ≤ 1 ∧ val us + val ys * X * 4294967296 ^ i = val zs + (O + b) * 4294967296 ^ (i + k) ∧ (∀ j, i + k ≤ j → us.getD j 0 = zs.getD j 0) ∧ Kb g w wr := ⟨O', bo', us, by rw [hdec], hrow, hul, hwu, hO, hbo, hv, hsam, hkb⟩
      have HF : Hid (∃ (O b : Nat) (us : List Int), Ending.returned (.bool (decide ((Z0 : Int) < (O' : Int) + (bo' : Int)))) = .returned (.bool (decide ((zs.getD (i + k) 0).toNat < O + b))) ∧ Rw wr g n us ∧ us.length = n ∧ Wd us ∧ O < 4294967296 ∧ b ≤ 1 ∧ val us + val ys * X * 4294967296 ^ i = val zs + (O + b) * 4294967296 ^ (i + k) ∧ (∀ j, i + k ≤ j → us.getD j 0 = zs.getD j 0) ∧ Kb g w wr) := hfin
      clear hfin hrow hul hwu hO hbo hv hsam hkb hdec
      go_wp2
      exact bodyPost_ret (v := .bool (decide ((Z0 : Int) < (O' : Int) + (bo' : Int)))) (by simp [results, Tryz.results221, go_sem]) rfl (by obtain ⟨O, b, us, h1, h2⟩ := HF.out; exact ⟨O, b, h1, us, h2⟩)
set_option maxRecDepth 20000 in
set_option maxHeartbeats 1000000 in
theorem putBack_ (g n i c1 d : Nat) (q : Option Addr) (zs ys : List Int) (w : World) (hr : Rw w g n zs) (hzl : zs.length = n) (hwz : Wd zs) (hy : Arr w q ys) (hwy : Wd ys) (hq : 0 < ys.length → ∀ b off, q = some ⟨b, off, none⟩ → b ≠ g) (hin : i + ys.length + 1 ≤ n) (hn : n ≤ 16777216) (hcc : ys.length + 1 ≤ c1) :
    Calls Tryz.prog 222 #[.slice (some ⟨g, i, none⟩) (ys.length + 1) c1, .slice q ys.length d] w fun e w' => ∃ (C : Nat) (us : List Int), e = .returned (.tuple #[]) ∧ Rw w' g n us ∧ us.length = n ∧ Wd us ∧ val us + C * 4294967296 ^ (i + ys.length) = val zs + val ys * 4294967296 ^ i ∧ (∀ j, i + ys.length ≤ j → us.getD j 0 = zs.getD j 0) ∧ Kb g w w' := by
  obtain ⟨M, hM⟩ : ∃ M, M = ys.length := ⟨_, rfl⟩
  rw [← hM] at hin hcc ⊢
  have HY : Hid (Arr w q ys ∧ (0 < ys.length → ∀ b off, q = some ⟨b, off, none⟩ → b ≠ g)) := ⟨hy, hq⟩
  have HW : Hid (Wd ys ∧ M = ys.length) := ⟨hwy, hM⟩
  have HZ : Hid (Rw w g n zs ∧ zs.length = n ∧ Wd zs) := ⟨hr, hzl, hwz⟩
  clear hy hq hwy hM hr hzl hwz
  go_enter Tryz.func222, Tryz.ntmps222
  go_wp2
  go_loopw [4, 8] (fun cc ii wr => ∃ (k C : Nat) (us : List Int), cc = .int .u32 (C : Int) ∧ ii = .int .i64 k ∧ k ≤ M ∧ Rw wr g n us ∧ us.length = n ∧ Wd us ∧ C ≤ 1 ∧ val us + C * 4294967296 ^ (i + k) = val zs + val (ys.take k) * 4294967296 ^ i ∧ (∀ j, i + k ≤ j → us.getD j 0 = zs.getD j 0) ∧ Kb g w wr) (fun _ i _ => M - (intOf i).toNat)
  case atStart => exact ⟨0, 0, zs, rfl, rfl, Nat.zero_le _, HZ.out.1, HZ.out.2.1, HZ.out.2.2, by omega, by simp [val], fun j _ => rfl, Kb.refl _ _⟩
  case round =>
    obtain ⟨k, C, us, rfl, rfl, hk, hrow, hul, hwu, hC, hv, hsam, hkb⟩ := hrel
    obtain ⟨hwy, hM⟩ := HW.out
    by_cases ck : k < M
    · obtain ⟨b', off', rfl, hc'⟩ := HY.out.1.at (k := k) (by omega)
      have hbg := HY.out.2 (by omega) b' off' rfl
      have e2 := hkb.arr hbg (hc' k (by omega))
      have e1 := World.rowIs.cell hrow (i := i + k) (by omega)
      have e4 := World.rowIs.frozen hrow (i + k)
      have wy := hwy k
      have wz := hwu (i + k)
      obtain ⟨Y, hY⟩ : ∃ Y : Nat, (Y : Int) = ys.getD k 0 := ⟨(ys.getD k 0).toNat, by omega⟩
      obtain ⟨Z0, hZ0⟩ : ∃ Z0 : Nat, (Z0 : Int) = us.getD (i + k) 0 := ⟨(us.getD (i + k) 0).toNat, by omega⟩
      rw [← hY] at e2
      rw [← hZ0] at e1
      have had := add32_ (Z0 : Int) (Y : Int) (C : Int) (by omega) (by omega) (by omega)
      obtain ⟨S, hS⟩ : ∃ S : Nat, S = (Z0 + Y + C) % 4294967296 := ⟨_, rfl⟩
      obtain ⟨C', hC'⟩ : ∃ C' : Nat, C' = (Z0 + Y + C) / 4294967296 := ⟨_, rfl⟩
      have g1 : ((Z0 : Int) + Y + C) % 4294967296 = (S : Int) := by omega
      have g2 : ((Z0 : Int) + Y + C) / 4294967296 = (C' : Int) := by omega
      rw [g1, g2] at had
      have hst := back_step us ys i k C C' S Y Z0 _ (by omega) hZ0.symm (by rw [← hY, Int.toNat_natCast]) (by omega) hv
      have hC1 : C' ≤ 1 := by omega
      have hw2 : Wd (us.set (i + k) (S : Int)) := hwu.set (i + k) S (by omega)
      have hl2 : (us.set (i + k) (S : Int)).length = n := by rw [List.length_set]; exact hul
      have hsam2 : ∀ j, i + (k + 1) ≤ j → (us.set (i + k) (S : Int)).getD j 0 = zs.getD j 0 := fun j h1 => by
        rw [← hsam j (by omega)]; simp [List.getD, show ¬ i + k = j from by omega]
      have hR : Rw (wr.setCell ⟨g, i + k, none⟩ (.int .u32 (S : Int))).drew g n (us.set (i + k) (S : Int)) := hrow.set (i + k) (S : Int) (by omega)
      have hK : Kb g w (wr.setCell ⟨g, i + k, none⟩ (.int .u32 (S : Int))).drew := hkb.setCell (i + k) (.int .u32 (S : Int))
      have i0 : (0 : Int) ≤ (k : Int) := by omega
      have i1 : (k : Int) < (M : Int) := by omega
      have i2 : (k : Int) < (M : Int) + 1 := by omega
      clear hc' HY HW HZ hwy hM hY hZ0 hv wy wz hwu hC hsam hul hS hC' g1 g2 hrow hkb
      go_wp2
      first | (go_region_with (first | (go_at_call 219; refine (had _).mono ?_; rintro e w' ⟨rfl, hw'⟩; obtain rfl := hw'.symm))) | fail
      all_goals
        clear had e1 e2 e4 hbg
        go_wp2
        exact ⟨⟨k + 1, C', us.set (i + k) (S : Int), rfl, by go_num, by omega, hR, hl2, hw2, hC1, hst, hsam2, hK⟩, by simp [intOf]; omega⟩
    · have hkM : k = M := by omega
      subst hkM
      rw [hM, List.take_length, ← hM] at hv
      have i2 : ¬ ((k : Int) < (k : Int)) := by omega
      have HF : Hid (Rw wr g n us ∧ us.length = n ∧ Wd us ∧ val us + C * 4294967296 ^ (i + k) = val zs + val ys * 4294967296 ^ i ∧ (∀ j, i + k ≤ j → us.getD j 0 = zs.getD j 0) ∧ Kb g w wr) := ⟨hrow, hul, hwu, hv, hsam, hkb⟩
      clear HY HW HZ hwy hM hk ck hrow hul hwu hC hv hsam hkb
      go_wp2
      exact bodyPost_end (v := .tuple #[]) (by kernel_rfl) rfl ⟨rfl, C, us, HF.out⟩
theorem Kb.trans {g : Nat} {a b c : World} (h : Kb g a b) (k : Kb g b c) : Kb g a c :=
  ⟨k.1.trans h.1, k.2.1.trans h.2.1, k.2.2.1.trans h.2.2.1, Nat.le_trans h.2.2.2.1 k.2.2.2.1, fun j hj hg => (k.2.2.2.2 j (Nat.lt_of_lt_of_le hj h.2.2.2.1) hg).trans (h.2.2.2.2 j hj hg)⟩
set_option maxRecDepth 20000 in
set_option maxHeartbeats 1000000 in
theorem takeOff_ (g n i c1 d : Nat) (q : Option Addr) (zs ys : List Int) (w : World) (hr : Rw w g n zs) (hzl : zs.length = n) (hwz : Wd zs) (hy : Arr w q ys) (hwy : Wd ys) (hq : 0 < ys.length → ∀ b off, q = some ⟨b, off, none⟩ → b ≠ g) (hy2 : 2 ≤ ys.length) (htop : 2147483648 ≤ (ys.getD (ys.length - 1) 0).toNat) (hin : i + ys.length + 1 ≤ n) (hn : n ≤ 16777216) (hcc : ys.length + 1 ≤ c1) (hlt : val (zs.take (i + ys.length + 1)) < val ys * 4294967296 ^ (i + 1)) :
    Calls Tryz.prog 215 #[.slice (some ⟨g, i, none⟩) (ys.length + 1) c1, .slice q ys.length d] w fun e w' => ∃ us : List Int, e = .returned (.int .u32 ((val (zs.take (i + ys.length + 1)) / (val ys * 4294967296 ^ i) : Nat) : Int)) ∧ Rw w' g n us ∧ us.length = n ∧ Wd us ∧ val (us.take (i + ys.length)) = val (zs.take (i + ys.length + 1)) % (val ys * 4294967296 ^ i) ∧ Kb g w w' := by
  obtain ⟨k, hk⟩ : ∃ k, ys.length = k + 2 := ⟨ys.length - 2, by omega⟩
  have wz := hwz (i + k + 2)
  have wz1 := hwz (i + k + 1)
  have wz0 := hwz (i + k)
  have wy1 := hwy (k + 1)
  have wy0 := hwy k
  obtain ⟨z, hz⟩ : ∃ z : Nat, (z : Int) = zs.getD (i + k + 2) 0 := ⟨_, Int.toNat_of_nonneg wz.1⟩
  obtain ⟨y, hy9⟩ : ∃ y : Nat, (y : Int) = zs.getD (i + k + 1) 0 := ⟨_, Int.toNat_of_nonneg wz1.1⟩
  obtain ⟨u0, hu0⟩ : ∃ u0 : Nat, (u0 : Int) = zs.getD (i + k) 0 := ⟨_, Int.toNat_of_nonneg wz0.1⟩
  obtain ⟨v1, hv1⟩ : ∃ v1 : Nat, (v1 : Int) = ys.getD (k + 1) 0 := ⟨_, Int.toNat_of_nonneg wy1.1⟩
  obtain ⟨v0, hv0⟩ : ∃ v0 : Nat, (v0 : Int) = ys.getD k 0 := ⟨_, Int.toNat_of_nonneg wy0.1⟩
  have ht1 : 2147483648 ≤ v1 := by
    rw [show ys.length - 1 = k + 1 from by omega, ← hv1, Int.toNat_natCast] at htop
    exact htop
  have hV0 : 0 < val ys := val_pos_top ys (k + 1) (by rw [← hv1, Int.toNat_natCast]; omega)
  obtain ⟨hTA, hT1, hT2⟩ := head_fits zs ys hwz hwy i k u0 y z v1 v0 hk (by rw [← hu0]; rfl) (by rw [← hy9]; rfl) (by rw [← hz]; rfl) (by rw [← hv0]; rfl) (by rw [← hv1]; rfl) ht1 hlt
  obtain ⟨b', off', rfl, hc'⟩ := hy.at (k := k) (by omega)
  have hbg := hq (by omega) b' off' rfl
  have htr := trial_ (z * 4294967296 + y) u0 v1 v0 hTA
  obtain ⟨T, hT⟩ : ∃ T, T = trialN (z * 4294967296 + y) u0 v1 v0 := ⟨_, rfl⟩
  have hT32 := trialN_lt (z * 4294967296 + y) u0 v1 v0
  rw [← hT] at htr hT1 hT2 hT32
  obtain ⟨hd, hhd⟩ : ∃ hd, hd = z * 4294967296 + y := ⟨_, rfl⟩
  rw [← hhd] at htr
  have e1 := World.rowIs.cell hr (i := i + k + 2) (by omega)
  have e2 := World.rowIs.cell hr (i := i + k + 1) (by omega)
  have e3 := World.rowIs.cell hr (i := i + k) (by omega)
  have e4 := hc' (k + 1) (by omega)
  have e5 := hc' k (by omega)
  rw [← hz] at e1
  rw [← hy9] at e2
  rw [← hu0] at e3
  rw [← hv1] at e4
  rw [← hv0] at e5
  obtain ⟨S, hS⟩ : ∃ S, S = z * 4294967296 := ⟨_, rfl⟩
  have f1 : IntKind.u64.wrap (z : Int) = (z : Int) := by rw [IntKind.wrap_u64]; omega
  have f2 : IntKind.u64.wrap (y : Int) = (y : Int) := by rw [IntKind.wrap_u64]; omega
  have f3 : IntKind.u64.wrap ((z : Int) * 4294967296) = (S : Int) := by rw [IntKind.wrap_u64]; omega
  have f4 : bits BinOp.or IntKind.u64 (S : Int) (y : Int) = (hd : Int) := by
    rw [hS, bits_or_u64_nat (z * 4294967296) y (by omega) (by omega)]
    have e2 : z * 4294967296 ||| y = hd := by
      rw [Nat.or_comm, hhd]
      have := or_low y z 32 (by omega)
      rw [show (2 : Nat) ^ 32 = 4294967296 from rfl] at this
      omega
    rw [e2]
  have hsub := fun (w' : World) (h1 : Rw w' g n zs) (h2 : Arr w' (some ⟨b', off', none⟩) ys) => subTimes_ g n i c1 d T (some ⟨b', off', none⟩) zs ys w' h1 hzl hwz h2 hwy hT32 hq hin hn hcc
  have hput := fun (us : List Int) (w' : World) (h1 : Rw w' g n us) (h3 : us.length = n) (h4 : Wd us) (h2 : Arr w' (some ⟨b', off', none⟩) ys) => putBack_ g n i c1 d (some ⟨b', off', none⟩) us ys w' h1 h3 h4 h2 hwy hq hin hn hcc
  obtain ⟨M, hM⟩ : ∃ M, M = ys.length := ⟨_, rfl⟩
  obtain ⟨M1, hM1⟩ : ∃ M1, M1 = k + 1 := ⟨_, rfl⟩
  rw [← hM] at hsub hput ⊢
  have a1 : i + k + 2 = i + M := by omega
  have a2 : i + k + 1 = i + M1 := by omega
  rw [a1] at e1
  rw [a2] at e2
  rw [← hM1] at e4
  have g1 : IntKind.i64.wrap ((M : Int) - 1) = (M1 : Int) := by rw [IntKind.wrap_i64]; omega
  have g2 : IntKind.i64.wrap ((M : Int) - 2) = (k : Int) := by rw [IntKind.wrap_i64]; omega
  have i0 : (M : Int) < (M : Int) + 1 := by omega
  have i1 : (M1 : Int) < (M : Int) + 1 := by omega
  have i2 : (k : Int) < (M : Int) + 1 := by omega
  have i3 : (M1 : Int) < (M : Int) := by omega
  have i4 : (k : Int) < (M : Int) := by omega
  have HH : Hid (M = ys.length ∧ zs.length = n ∧ Wd zs ∧ Wd ys ∧ T < 4294967296 ∧ 0 < val ys ∧ val (zs.take (i + ys.length + 1)) / (val ys * 4294967296 ^ i) ≤ T ∧ T ≤ val (zs.take (i + ys.length + 1)) / (val ys * 4294967296 ^ i) + 1) := ⟨hM, hzl, hwz, hwy, hT32, hV0, hT1, hT2⟩
  have HR : Hid (Rw w g n zs ∧ Arr w (some ⟨b', off', none⟩) ys) := ⟨hr, hy⟩
  have HB : Hid (b' ≠ g) := hbg
  clear hr hzl hwz hwy hy hq hy2 htop hin hn hcc hlt hk wz wz1 wz0 wy1 wy0 hz hy9 hu0 hv1 hv0 ht1 hV0 hTA hT1 hT2 hc' hbg hT hT32 hhd hS hM hM1 a1 a2
  go_enter Tryz.func215, Tryz.ntmps215
  go_wp2
  go_region_held3 (fun w' => w'.cell? ⟨g, i + M, none⟩ = some (.int .u32 (z : Int)) ∧ w'.cell? ⟨g, i + M1, none⟩ = some (.int .u32 (y : Int)) ∧ w'.cell? ⟨g, i + k, none⟩ = some (.int .u32 (u0 : Int)) ∧ w'.cell? ⟨b', off' + M1, none⟩ = some (.int .u32 (v1 : Int)) ∧ w'.cell? ⟨b', off' + k, none⟩ = some (.int .u32 (v0 : Int))) (exact ⟨e1, e2, e3, e4, e5⟩) (first | (go_at_call 220; refine (htr _).mono ?_; rintro e w' ⟨rfl, rfl⟩))
  rename_i hHeld
  clear hHeld
  clear e1 e2 e3 e4 e5 htr f1 f2 f3 f4 g1 g2 i1 i2 i3 i4
  go_wp2_with fail
  refine (hsub w.drew.drew HR.out.1 HR.out.2).mono ?_
  rintro e w' ⟨O, bo, us, rfl, hR2, hul, hwu, hO, hbo, hv, hsam, hkb⟩
  obtain ⟨hM, hzl, hwz, hwy, hT32, hV0, hT1, hT2⟩ := HH.out
  have hkb2 : Kb g w w' := hkb
  have hA2 : Arr w' (some ⟨b', off', none⟩) ys := Or.inr ⟨b', off', rfl, fun j hj => by
    obtain ⟨b2, off2, e, hc⟩ := HR.out.2.at (k := j) hj
    cases e
    exact hkb2.arr HB.out (hc j hj)⟩
  by_cases cz : (zs.getD (i + M) 0).toNat < O + bo
  · rw [decide_eq_true cz]
    have hpu := hput us w' hR2 hul hwu hA2
    rw [hM] at hv hsam cz
    have hfin := fun (C : Nat) (vs : List Int) (hl2 : vs.length = us.length) (hwv : Wd vs) hs2 hv2 => off_back us vs zs ys i O bo T C (by omega) hl2 hwu hwv hwy hsam hv hV0 hT1 hT2 cz hs2 hv2
    obtain ⟨T', hT'⟩ : ∃ T', T' = T - 1 := ⟨_, rfl⟩
    rw [← hM] at hfin
    have hT0 : 1 ≤ T := by
      by_cases e : T = 0
      · exfalso
        subst e
        have h1 := off_eq us zs ys i O bo 0 (by omega) hsam hv
        have h2 := val_take_lt us hwu (i + ys.length)
        have h3 : ((zs.getD (i + ys.length) 0).toNat + 1) * 4294967296 ^ (i + ys.length) ≤ (O + bo) * 4294967296 ^ (i + ys.length) := Nat.mul_le_mul_right _ cz
        rw [Nat.add_mul, Nat.one_mul] at h3
        rw [Nat.mul_zero, Nat.zero_mul] at h1
        omega
      · omega
    have fT : IntKind.u32.wrap ((T : Int) - 1) = (T' : Int) := by rw [IntKind.wrap_u32]; omega
    have HF : Hid (∀ (C : Nat) (vs : List Int), vs.length = us.length → Wd vs → (∀ j, i + M ≤ j → vs.getD j 0 = us.getD j 0) → val vs + C * 4294967296 ^ (i + M) = val us + val ys * 4294967296 ^ i → T' = val (zs.take (i + M + 1)) / (val ys * 4294967296 ^ i) ∧ val (vs.take (i + M)) = val (zs.take (i + M + 1)) % (val ys * 4294967296 ^ i)) := fun C vs a b c d => by rw [hT']; exact (hfin C vs a b c d).2
    have HU : Hid (us.length = n ∧ Kb g w w') := ⟨hul, hkb2⟩
    clear hsub hput HH HR HB hM hzl hwz hwy hT32 hV0 hT1 hT2 hul hwu hO hbo hv hsam hkb hkb2 hA2 cz hfin hT' hT0 hR2 i0
    go_wp2_with fail
    refine hpu.mono ?_
    rintro e w2 ⟨C, vs, rfl, hRv, hvl, hwv, hvv, hvs, hkv⟩
    obtain ⟨hq1, hq2⟩ := HF.out C vs (by rw [hvl, HU.out.1]) hwv hvs hvv
    have hK : Kb g w w2 := HU.out.2.trans hkv
    have HQ : Hid (T' = val (zs.take (i + M + 1)) / (val ys * 4294967296 ^ i) ∧ val (vs.take (i + M)) = val (zs.take (i + M + 1)) % (val ys * 4294967296 ^ i)) := ⟨hq1, hq2⟩
    clear hpu HF HU hvv hvs hkv hq1 hq2
    go_wp2
    exact bodyPost_ret (v := .int .u32 (T' : Int)) (by simp [results, Tryz.results215, go_sem]) rfl ⟨vs, by rw [HQ.out.1], hRv, hvl, hwv, HQ.out.2, hK⟩
  · rw [decide_eq_false cz]
    rw [hM] at hv hsam cz
    obtain ⟨hq1, hq2⟩ := off_right us zs ys i O bo T (by omega) hwu hwy hsam hv hV0 hT1 cz
    rw [← hM] at hq1 hq2
    have HQ : Hid (T = val (zs.take (i + M + 1)) / (val ys * 4294967296 ^ i) ∧ val (us.take (i + M)) = val (zs.take (i + M + 1)) % (val ys * 4294967296 ^ i)) := ⟨hq1, hq2⟩
    clear hsub hput HH HR HB hM hzl hwz hwy hT32 hV0 hT1 hT2 hO hbo hv hsam hkb hA2 cz i0 hq1 hq2
    go_wp2
    exact bodyPost_ret (v := .int .u32 (T : Int)) (by simp [results, Tryz.results215, go_sem]) rfl ⟨us, by rw [HQ.out.1], hR2, hul, hwu, HQ.out.2, hkb2⟩
end Go.Proofs.YthdnajcgdngmcaaGreatDoor
