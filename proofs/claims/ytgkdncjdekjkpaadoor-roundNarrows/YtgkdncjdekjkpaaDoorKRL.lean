import Derived.Test.YtgkdncjdekjkpaaDoorProg
import Derived.Test.YtgkdncjdekjkpaaDoorKA
import Derived.Test.YtgkdncjdekjkpaaDoorKA2
import Derived.Test.YtgkdncjdekjkpaaDoorKA3
import Derived.Test.YtgkdncjdekjkpaaDoorKA4
import Derived.Test.YtgkdncjdekjkpaaDoorKXM
import Derived.Test.YtgkdncjdekjkpaaDoorKXT
import Derived.Test.YtgkdncjdekjkpaaDoorKA5
import Derived.Test.YtgkdncjdekjkpaaDoorKAT
import Derived.Test.YtgkdncjdekjkpaaDoorKLB
import Derived.Test.YtgkdncjdekjkpaaDoorKLN
import Derived.Test.YtgkdncjdekjkpaaDoorKPR
import Derived.Test.YtgkdncjdekjkpaaDoorKRN
import Derived.Test.YtgkdncjdekjkpaaDoorKSL
import Derived.WalkKit
import Derived.ProofKit
import Derived.RowKit3
import Derived.WalkSpells
import Derived.StillTactics
import Derived.Deep.QuietTactic
import Derived.BigQuiet
import Derived.Below
import Derived.Deep.OwnRows
import Derived.OwnWalk
import Derived.Laws.BitsAllLaws
import Derived.Laws.Slices
import Derived.Laws.Bits64b
namespace Go.Proofs.YtgkdncjdekjkpaaDoor
open Go.RowKit
set_option maxRecDepth 20000 in
set_option maxHeartbeats 1000000 in
theorem rleft_ (p : Option Addr) (c m : Nat) (xs : List Int) (w : World) (hx : Arr w p xs) (hwx : Wd xs) (lx : xs.length ≤ 1048576) (hm : m ≤ 16777216) :
    Calls Tryd.prog 55 #[.slice p xs.length c, .int .i64 (m : Int)] w fun e w' => ∃ v, e = .returned v ∧ Own w' w.heap.size v (dig (val xs * 2 ^ m)) ∧ Kp w w' := by
  have h1 := words_ p c xs w hx (by omega)
  have lS := tl_le xs
  have hvx := val_tl xs
  obtain ⟨N, hN⟩ : ∃ N, N = xs.length := ⟨_, rfl⟩
  obtain ⟨S, hS⟩ : ∃ S, S = tl xs := ⟨_, rfl⟩
  rw [← hS] at h1 lS hvx
  rw [← hN] at h1 lS lx ⊢
  rcases Nat.eq_zero_or_pos S with h0 | h0
  · subst h0
    have e0 : val xs = 0 := by rw [← hvx]; rfl
    rw [e0, Nat.zero_mul, dig_zero]
    clear hx hwx lx lS hN hS hvx e0 hm
    go_enter Tryd.func55, Tryd.ntmps55
    go_wp2_with fail
    refine h1.mono ?_; rintro e w' ⟨rfl, hw'⟩; obtain rfl := hw'.symm
    go_wp2
    exact bodyPost_ret (v := .slice none 0 0) (by simp [results, Tryd.results55, go_sem] <;> simp only [*]) rfl ⟨_, rfl, Own.nil _ _, Kp.refl _⟩
  · obtain ⟨o, ho⟩ : ∃ o, o = m / 32 := ⟨_, rfl⟩
    obtain ⟨s, hs⟩ : ∃ s, s = m % 32 := ⟨_, rfl⟩
    obtain ⟨L, hL⟩ : ∃ L, L = o + S + 1 := ⟨_, rfl⟩
    have hps := pow_split m
    rw [← ho, ← hs] at hps
    have hmk : ∀ w : World, (Instr.makeSlice 22 (.int .i64 ((o : Int) + (S : Int) + 1)) (.int .i64 ((o : Int) + (S : Int) + 1))).run Tryd.prog w = .ok (.slice (some ⟨w.heap.size, 0, none⟩) L L) (w.alloc (.cells (madeCells #[.int .u32 0] L) 41)) := by
      have := mk32 L (by omega)
      have e : ((L : Nat) : Int) = (o : Int) + (S : Int) + 1 := by omega
      rw [e] at this
      exact this
    have hk1 : Kp w (w.alloc (.cells (madeCells #[.int .u32 0] L) 41)) := (Kp.refl w).alloc _
    have hrz : Rw (w.alloc (.cells (madeCells #[.int .u32 0] L) 41)) w.heap.size L (List.replicate L 0) := World.rowIs.congr (World.rowIs_made w (.int .u32 0) L 41) (fun j _ => by rw [rep0_getD])
    obtain ⟨zs0, hz0⟩ : ∃ zs0, zs0 = List.replicate L (0 : Int) := ⟨_, rfl⟩
    have hzl0 : zs0.length = L := by rw [hz0]; simp
    have hwz0 : Wd zs0 := by rw [hz0]; exact Wd_rep0 _
    have hzz0 : ∀ j, zs0.getD j 0 = 0 := fun j => by rw [hz0]; exact rep0_getD _ _
    have hvz0 := val_zeros zs0 hzz0
    rw [← hz0] at hrz
    obtain ⟨g, hg⟩ : ∃ g, g = w.heap.size := ⟨_, rfl⟩
    rw [← hg] at hrz
    have f1 : (m : Int) / 32 = (o : Int) := by omega
    have f2 : (m : Int) % 32 = (s : Int) := by omega
    have f3 : IntKind.u64.wrap (s : Int) = (s : Int) := by rw [IntKind.wrap_u64]; omega
    have t0 : ((S : Int) == 0) = false := by simp; omega
    have i00 : (0 : Int) ≤ (s : Int) := by omega
    have lS2 : S ≤ 1048576 := by omega
    have lo : o ≤ 524288 := by omega
    have HX : Hid (Arr w p xs ∧ Wd xs ∧ val (xs.take S) = val xs ∧ N = xs.length ∧ S ≤ N ∧ L = o + S + 1 ∧ s < 32 ∧ g = w.heap.size ∧ 2 ^ s * 4294967296 ^ o = 2 ^ m) := ⟨hx, hwx, hvx, hN, lS, hL, by omega, hg, hps⟩
    clear hx hwx hN hS hvx lS hL ho hs hps hz0 lx h0 hm
    go_enter Tryd.func55, Tryd.ntmps55
    go_wp2_with fail
    refine h1.mono ?_; rintro e w' ⟨rfl, hw'⟩; obtain rfl := hw'.symm
    clear h1
    go_wp2
    rw [← hg]
    clear hmk hg t0
    go_loopw [8] (fun i wr => ∃ (k C : Nat) (us : List Int), i = .int .i64 k ∧ k ≤ S ∧ Rw wr g L us ∧ us.length = L ∧ Wd us ∧ us.getD (o + k) 0 = (C : Int) ∧ C < 2 ^ s ∧ val us = val (xs.take k) * 2 ^ s * 4294967296 ^ o ∧ (∀ j, o + k < j → us.getD j 0 = 0) ∧ Kp w wr) (fun i _ => S - (intOf i).toNat)
    case atStart => exact ⟨0, 0, zs0, rfl, Nat.zero_le _, hrz, hzl0, hwz0, hzz0 _, Nat.two_pow_pos s, by rw [hvz0]; simp [val], fun j _ => hzz0 j, hk1⟩
    case round =>
      clear hrz hzl0 hwz0 hzz0 hvz0 hk1
      obtain ⟨k, C, us, rfl, hk, hrow, hul, hwu, hCe, hC, hv, hz, hkp⟩ := hrel
      obtain ⟨hx, hwx, hvx, hN, lS, hL, hs, hg, hps⟩ := HX.out
      by_cases ck : k < S
      · obtain ⟨b, off, rfl, hc⟩ := hx.at (k := k) (by omega)
        have e0 := hc k (by omega)
        have e1 := kkeep hkp e0
        have wx := hwx k
        obtain ⟨X, hX⟩ : ∃ X : Nat, (X : Int) = xs.getD k 0 := ⟨(xs.getD k 0).toNat, by omega⟩
        rw [← hX] at e1
        have h2s : 2 ^ s ≤ 2147483648 := by
          have := Nat.pow_le_pow_right (show 0 < 2 by decide) (show s ≤ 31 by omega)
          exact Nat.le_trans this (by decide)
        have hX32 : X < 4294967296 := by omega
        obtain ⟨w1, w2, w3, w4⟩ := shl_word X C s hs hX32 hC
        have hV63 : X * 2 ^ s < 18446744073709551616 := by
          have a1 : X * 2 ^ s ≤ 4294967295 * 2147483648 := Nat.mul_le_mul (by omega) h2s
          omega
        have hhi : X * 2 ^ s / 4294967296 = X / 2 ^ (32 - s) := by omega
        obtain ⟨V, hV⟩ : ∃ V, V = X * 2 ^ s := ⟨_, rfl⟩
        obtain ⟨H, hH⟩ : ∃ H, H = X / 2 ^ (32 - s) := ⟨_, rfl⟩
        rw [← hV] at w1 w2 w4 hV63 hhi
        rw [← hH] at w3 w4 hhi
        have f4 : IntKind.u64.wrap (X : Int) = (X : Int) := by rw [IntKind.wrap_u64]; omega
        have f5 : IntKind.u64.wrap ((X : Int) * 2 ^ s) = (V : Int) := by
          have : (X : Int) * 2 ^ s = (V : Int) := by rw [hV, Int.natCast_mul, Int.natCast_pow]; rfl
          rw [this, IntKind.wrap_u64]; omega
        have f6 := and32 V hV63
        obtain ⟨Y, hY⟩ : ∃ Y, Y = V % 4294967296 := ⟨_, rfl⟩
        rw [← hY] at f6 w1 w2 w4
        have f7 : IntKind.u32.wrap (Y : Int) = (Y : Int) := by rw [IntKind.wrap_u32]; omega
        have f8 := u32_or_nat C Y (by omega) (by omega)
        rw [Nat.or_comm, w1] at f8
        have f9 : (V : Int) / 4294967296 = (H : Int) := by omega
        have f10 : IntKind.u32.wrap (H : Int) = (H : Int) := by rw [IntKind.wrap_u32]; omega
        obtain ⟨Z, hZ⟩ : ∃ Z, Z = Y + C := ⟨_, rfl⟩
        rw [← hZ] at f8 w2 w4
        have hv1 := val_set us (o + k) (Z : Int) (by omega)
        rw [hCe, Int.toNat_natCast, Int.toNat_natCast] at hv1
        have hg1 : (us.set (o + k) (Z : Int)).getD (o + k + 1) 0 = 0 := by
          have e2 : (us.set (o + k) (Z : Int)).getD (o + k + 1) 0 = us.getD (o + k + 1) 0 := by simp [List.getD]
          rw [e2]; exact hz _ (by omega)
        have hv2 := val_set (us.set (o + k) (Z : Int)) (o + k + 1) (H : Int) (by rw [List.length_set]; omega)
        rw [hg1, Int.toNat_natCast] at hv2
        have hg2 := mul_grow xs (2 ^ s) o k
        rw [show (xs.getD k 0).toNat = X from by omega, ← hV] at hg2
        have hval : val ((us.set (o + k) (Z : Int)).set (o + k + 1) (H : Int)) = val (xs.take (k + 1)) * 2 ^ s * 4294967296 ^ o := by
          rw [hg2, ← hv]
          rw [Nat.pow_succ] at hv2
          generalize 4294967296 ^ (o + k) = P at hv1 hv2 ⊢
          have e := congrArg (· * P) w4
          simp only [Nat.add_mul] at e
          have e3 : H * (P * 4294967296) = 4294967296 * H * P := by simp only [Nat.mul_comm, Nat.mul_left_comm]
          simp at hv2
          omega
        have hw2 : Wd ((us.set (o + k) (Z : Int)).set (o + k + 1) (H : Int)) := (hwu.set (o + k) Z (by omega)).set _ _ (by omega)
        have hl2 : ((us.set (o + k) (Z : Int)).set (o + k + 1) (H : Int)).length = L := by rw [List.length_set, List.length_set]; exact hul
        have hH2 : ((us.set (o + k) (Z : Int)).set (o + k + 1) (H : Int)).getD (o + (k + 1)) 0 = (H : Int) := by
          rw [← Nat.add_assoc]; simp [List.getD, show o + k + 1 < us.length from by omega]
        have hz2 : ∀ j, o + (k + 1) < j → ((us.set (o + k) (Z : Int)).set (o + k + 1) (H : Int)).getD j 0 = 0 := fun j h1 => by
          have e1 : ((us.set (o + k) (Z : Int)).set (o + k + 1) (H : Int)).getD j 0 = us.getD j 0 := by simp [List.getD, show ¬ o + k = j from by omega, show ¬ o + k + 1 = j from by omega]
          rw [e1]; exact hz j (by omega)
        have e3 := World.rowIs.cell hrow (i := o + k) (by omega)
        rw [hCe] at e3
        have e4 := World.rowIs.frozen hrow (o + k)
        have hR1 := hrow.set (o + k) (Z : Int) (by omega)
        have e5 := World.rowIs.cell hR1 (i := o + k + 1) (by omega)
        have e6 := World.rowIs.frozen hR1 (o + k + 1)
        have hR2 := hR1.set (o + k + 1) (H : Int) (by rw [List.length_set]; omega)
        have hgw : w.heap.size ≤ g := by omega
        have hK := (hkp.setCell (p := ⟨g, o + k, none⟩) hgw (.int .u32 (Z : Int))).setCell (p := ⟨g, o + k + 1, none⟩) hgw (.int .u32 (H : Int))
        have i0 : (0 : Int) ≤ (k : Int) := by omega
        have i1 : (k : Int) < (S : Int) := by omega
        have i2 : (k : Int) < (N : Int) := by omega
        have i3 : (0 : Int) ≤ (o : Int) + (k : Int) := by omega
        have i4 : (o : Int) + (k : Int) < (L : Int) := by omega
        have i5 : (0 : Int) ≤ (o : Int) + (k : Int) + 1 := by omega
        have i6 : (o : Int) + (k : Int) + 1 < (L : Int) := by omega
        have HH : Hid (H < 2 ^ s) := w3
        clear HX hx hwx hvx hN lS hL hs hg hps hc e0 wx hX hV hH hY hZ hCe hC hv hz hrow hul hwu hkp h2s hV63 hhi w1 w2 w3 w4 hv1 hv2 hg1 hg2 hR1 hX32
        go_wp2
        exact ⟨⟨k + 1, H, (us.set (o + k) (Z : Int)).set (o + k + 1) (H : Int), by go_num, by omega, hR2, hl2, hw2, hH2, HH.out, hval, hz2, hK⟩, by simp [intOf]; omega⟩
      · have hkS : k = S := by omega
        subst hkS
        rw [hvx, Nat.mul_assoc, hps] at hv
        have hA := hrow.arr L (Nat.le_refl _) (by omega)
        rw [List.take_of_length_le (by omega)] at hA
        have hno := rnorm_ (some ⟨g, 0, none⟩) L us wr hA (by omega)
        rw [nz_dig us hwu, hv, hul] at hno
        have hsz := hkp.size
        have i1 : ¬ ((k : Int) < (k : Int)) := by omega
        clear HX hx hwx hvx hN lS hL hs hg hps hA hrow hul hwu hCe hC hv hz hk ck
        go_wp2_with fail
        refine hno.mono ?_
        rintro e w2 ⟨v2, rfl, hO2, hk2⟩
        clear hno
        go_wp2
        exact bodyPost_ret (v := v2) (by simp [results, Tryd.results55, go_sem] <;> simp only [*]) rfl ⟨v2, rfl, hO2.mono hsz, hkp.trans hk2⟩
end Go.Proofs.YtgkdncjdekjkpaaDoor
