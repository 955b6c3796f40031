import Derived.Test.YtkjcnnjgaififaaDoorProg
import Derived.Test.YtkjcnnjgaififaaDoorKA
import Derived.Test.YtkjcnnjgaififaaDoorKA2
import Derived.Test.YtkjcnnjgaififaaDoorKA3
import Derived.Test.YtkjcnnjgaififaaDoorKA4
import Derived.Test.YtkjcnnjgaififaaDoorKXM
import Derived.Test.YtkjcnnjgaififaaDoorKXT
import Derived.Test.YtkjcnnjgaififaaDoorKA5
import Derived.Test.YtkjcnnjgaififaaDoorKAT
import Derived.Test.YtkjcnnjgaififaaDoorKLB
import Derived.Test.YtkjcnnjgaififaaDoorKLN
import Derived.Test.YtkjcnnjgaififaaDoorKPR
import Derived.Test.YtkjcnnjgaififaaDoorKSL
import Derived.Test.YtkjcnnjgaififaaDoorKSR
import Derived.Test.YtkjcnnjgaififaaDoorKNF
import Derived.Test.YtkjcnnjgaififaaDoorKXQ
import Derived.Test.YtkjcnnjgaififaaDoorKTO
import Derived.Test.YtkjcnnjgaififaaDoorKHB
import Derived.Test.YtkjcnnjgaififaaDoorKZE
import Derived.Test.YtkjcnnjgaififaaDoorKTZ
import Derived.Test.YtkjcnnjgaififaaDoorKBW
import Derived.Test.YtkjcnnjgaififaaDoorKNSm
import Derived.Test.YtkjcnnjgaififaaDoorKW4
import Derived.Test.YtkjcnnjgaififaaDoorKRW
import Derived.Test.YtkjcnnjgaififaaDoorKXN
import Derived.Test.YtkjcnnjgaififaaDoorKNS
import Derived.Test.YtkjcnnjgaififaaDoorKNM
import Derived.Test.YtkjcnnjgaififaaDoorKNPw
import Derived.Test.YtkjcnnjgaififaaDoorKXS
import Derived.Test.YtkjcnnjgaififaaDoorKLI
import Derived.Test.YtkjcnnjgaififaaDoorKLS
import Derived.Test.YtkjcnnjgaififaaDoorKMT10
import Derived.Test.YtkjcnnjgaififaaDoorKNC
import Derived.Test.YtkjcnnjgaififaaDoorKTL
import Derived.Test.YtkjcnnjgaififaaDoorKNQ
import Derived.Test.YtkjcnnjgaififaaDoorKRT9
import Derived.WalkKit
import Derived.ProofKit
import Derived.RowKit3
import Derived.WalkSpells
import Derived.StillTactics
import Derived.Deep.QuietTactic
import Derived.BigQuiet
import Derived.Below
import Derived.Deep.OwnRows
import Derived.OwnWalk
import Derived.Laws.BitsAllLaws
namespace Go.Proofs.YtkjcnnjgaififaaDoor
open Go.RowKit
theorem bits_nums (k j m : Nat) (hm : m = 32 * k + j) (h : m < 32 * 64) : wrap64 (32 * (k : Int)) = 32 * (k : Int) ∧ wrap64 (32 * (k : Int) + (j : Int)) = (m : Int) ∧ wrap64 ((m : Int) + 1) = (m : Int) + 1 ∧ m ≤ 4000 :=
  ⟨w64 _ (by omega) (by omega), by rw [show 32 * (k : Int) + (j : Int) = (m : Int) from by omega]; exact w64 _ (by omega) (by omega), w64 _ (by omega) (by omega), by omega⟩
theorem bits_sizes (m B K : Nat) (h : m < 32 * K) (hB : B < 2 ^ m) : Sm K B ∧ Sm K (2 ^ m) := by
  have h1 : (2 : Nat) ^ m < 2 ^ (32 * K) := Nat.pow_lt_pow_right (by omega) h
  rw [← pow32] at h1
  exact ⟨Nat.lt_trans hB h1, h1⟩
set_option maxRecDepth 20000 in
set_option maxHeartbeats 400000 in
theorem bits_ (p : Option Addr) (c : Nat) (xs : List Int) (w : World) (hT : Tab w) (hx : Arr w p xs) (hwx : Wd xs) (lx : xs.length ≤ 1048576) :
    Calls Tryd.prog 6 #[.slice p xs.length c] w fun e w' => e = .returned (.bool true) ∧ Kp w w' := by
  have hsh := fun w' (k : Kp w w') => short_ p c 64 xs w' (hx.grown k) lx
  have BL : Hid (Wd (xs.take 64) ∧ Sm 64 (val (xs.take 64)) ∧ (xs.take 64).length ≤ 1048576) := takeB2 xs hwx 64 (by omega)
  have hbt := fun i j hi hj => take_bit xs hwx 64 i j hi hj
  have hln : (xs.take 64).length = min 64 xs.length := List.length_take
  obtain ⟨L, hL⟩ : ∃ L, L = xs.take 64 := ⟨_, rfl⟩
  rw [← hL] at hsh BL hbt hln
  obtain ⟨A, hA⟩ : ∃ A, A = val L := ⟨_, rfl⟩
  have HA : Hid (A = val L) := hA
  rw [← hA] at hbt
  obtain ⟨n, hn⟩ : ∃ n, n = L.length := ⟨_, rfl⟩
  rw [← hn] at hbt hln
  obtain ⟨N, hN⟩ : ∃ N, N = xs.length := ⟨_, rfl⟩
  rw [← hN] at hsh hln lx ⊢
  have hAn : A < 2 ^ (32 * n) := by rw [← pow32, hA, hn]; exact val_lt L BL.out.1
  have HX : Hid (Arr w p xs ∧ Wd xs ∧ N = xs.length ∧ (∀ i j, i < n → j < 32 → (xs.getD i 0).toNat / 2 ^ j % 2 = A / 2 ^ (32 * i + j) % 2) ∧ A < 2 ^ (32 * n)) := ⟨hx, hwx, hN, hbt, hAn⟩
  have HN : Hid (n = min 64 N ∧ N ≤ 1048576) := ⟨hln, lx⟩
  have HT : Hid (Tab w) := hT
  clear hx hwx lx hbt hln hL hA hn hN hAn hT
  go_enter Tryd.func6, Tryd.ntmps6
  go_wp2
  go_loopw [3, 4, 5, 6] (fun ss le mo jj wr => ∃ (k B : Nat) (v : Value), jj = .int .i64 (k : Int) ∧ v = ss ∧ le = .int .i64 (ctz B : Nat) ∧ mo = .int .i64 (blen B : Nat) ∧ k ≤ n ∧ B = A % 2 ^ (32 * k) ∧ Ls wr v (dig B) ∧ Kp w wr) (fun _ _ _ i _ => n - (intOf i).toNat)
  case atStart =>
    exact ⟨0, 0, _, rfl, rfl, by rw [ctz_zero]; rfl, by rw [blen_zero]; rfl, Nat.zero_le _, by rw [Nat.mul_zero, Nat.pow_zero, Nat.mod_one], by rw [dig_zero]; exact ⟨none, 0, rfl, Or.inl rfl, Nat.le_refl _⟩, Kp.refl _⟩
  case round =>
    obtain ⟨k, B, v, rfl, rfl, rfl, rfl, hkn, hB, hLs, hkp⟩ := hrel
    by_cases ck : k < n
    · have t1 : (k : Int) < (N : Int) := by have := HN.out; omega
      have t2 : (k : Int) < 64 := by have := HN.out; omega
      have HK9 : Hid (k < n ∧ k < 64) := ⟨ck, by have := HN.out; omega⟩
      have HB9 : Hid (B = A % 2 ^ (32 * k) ∧ Ls wr v (dig B) ∧ Kp w wr) := ⟨hB, hLs, hkp⟩
      clear hkn ck hB hLs hkp hsh BL HA
      obtain ⟨wo, rfl⟩ : ∃ wo : World, wo = wr := ⟨_, rfl⟩
      obtain ⟨lb, hlb⟩ : ∃ lb, lb = blen B := ⟨_, rfl⟩
      obtain ⟨cb, hcb⟩ : ∃ cb, cb = ctz B := ⟨_, rfl⟩
      have HLC : Hid (lb = blen B ∧ cb = ctz B) := ⟨hlb, hcb⟩
      rw [← hlb, ← hcb]
      clear hlb hcb
      go_wp2
      go_loopw [3, 4, 5, 7] (fun ss le mo jj wr => ∃ (j B : Nat) (v : Value), jj = .int .i64 (j : Int) ∧ v = ss ∧ le = .int .i64 (ctz B : Nat) ∧ mo = .int .i64 (blen B : Nat) ∧ j ≤ 32 ∧ B = A % 2 ^ (32 * k + j) ∧ Ls wr v (dig B) ∧ Kp w wr) (fun _ _ _ i _ => 32 - (intOf i).toNat)
      case atStart =>
        exact ⟨0, B, _, rfl, rfl, by rw [HLC.out.2], by rw [HLC.out.1], Nat.zero_le _, HB9.out.1, HB9.out.2.1, HB9.out.2.2⟩
      case round =>
        clear HB9 HLC
        obtain ⟨j, B, v, rfl, rfl, rfl, rfl, hj, hB, hLs, hkp⟩ := hrel
        by_cases cj : j = 32
        · subst cj
          have HZ : Hid (B = A % 2 ^ (32 * (k + 1)) ∧ Ls wr v (dig B) ∧ Kp w wr) := ⟨hB, hLs, hkp⟩
          obtain ⟨lb, hlb⟩ : ∃ lb, lb = blen B := ⟨_, rfl⟩
          obtain ⟨cb, hcb⟩ : ∃ cb, cb = ctz B := ⟨_, rfl⟩
          have HLC : Hid (lb = blen B ∧ cb = ctz B) := ⟨hlb, hcb⟩
          rw [← hlb, ← hcb]
          clear hlb hcb hj hB hLs hkp
          have hk64 : k ≤ 64 := Nat.le_of_lt HK9.out.2
          go_wp2
          exact ⟨⟨k + 1, B, _, by go_num, rfl, by rw [HLC.out.2], by rw [HLC.out.1], HK9.out.1, HZ.out.1, HZ.out.2.1, HZ.out.2.2⟩, by have := HK9.out; simp [intOf]; omega⟩
        · have t3 : (j : Int) < 32 := by omega
          have hj2 : j < 32 := by omega
          have hkN : k < N := by have := HN.out; have := HK9.out; omega
          obtain ⟨b, off, rfl, hcl⟩ := (HX.out.1.grown hkp).at (by rw [← HX.out.2.2.1]; exact hkN)
          have e1 := hcl k (by rw [← HX.out.2.2.1]; exact hkN)
          have wx := HX.out.2.1 k
          have hbt := HX.out.2.2.2.1 k j HK9.out.1 hj2
          obtain ⟨X, hX⟩ : ∃ X : Nat, (X : Int) = xs.getD k 0 := ⟨(xs.getD k 0).toNat, by omega⟩
          rw [← hX] at e1 hbt wx
          rw [Int.toNat_natCast] at hbt
          have hstep := bit_step A (32 * k + j)
          rw [← hbt, ← hB] at hstep
          obtain ⟨m, hm⟩ : ∃ m, m = 32 * k + j := ⟨_, rfl⟩
          have hm9 : m < 32 * 64 := by have := HK9.out.2; omega
          have hBm : B < 2 ^ m := by rw [hB, hm]; exact Nat.mod_lt _ (Nat.pow_pos (by omega))
          have i0 : (0 : Int) ≤ (k : Int) := by omega
          have i1 : (k : Int) < (N : Int) := by omega
          have i2 : ¬ ((N : Int) ≤ (k : Int)) := by omega
          have f3 : IntKind.u64.wrap (j : Int) = (j : Int) := by rw [IntKind.wrap_u64]; omega
          obtain ⟨Q, hQ⟩ : ∃ Q, Q = X / 2 ^ j := ⟨_, rfl⟩
          rw [← hQ] at hstep
          have hQX : Q ≤ X := by rw [hQ]; exact Nat.div_le_self _ _
          have f4 : (X : Int) / 2 ^ j = (Q : Int) := by rw [hQ]; push_cast; rfl
          have f5 : bits BinOp.and IntKind.u32 (Q : Int) 1 = ((Q % 2 : Nat) : Int) := by
            have := u32_and_nat Q 1 (by omega) (by omega)
            rw [Nat.and_one_is_mod] at this
            exact this
          rw [show 32 * k + j + 1 = 32 * k + (j + 1) from by omega, ← hm] at hstep
          have hz32 : k ≤ 64 := Nat.le_of_lt HK9.out.2
          rcases (by omega : Q % 2 = 0 ∨ Q % 2 = 1) with cq | cq
          · rw [cq] at f5 hstep
            rw [Nat.mul_zero, Nat.add_zero] at hstep
            have HZ : Hid (B = A % 2 ^ (32 * k + (j + 1)) ∧ Ls wr v (dig B) ∧ Kp w wr ∧ j < 32) := ⟨hstep.symm, hLs, hkp, hj2⟩
            obtain ⟨lb, hlb⟩ : ∃ lb, lb = blen B := ⟨_, rfl⟩
            obtain ⟨cb, hcb⟩ : ∃ cb, cb = ctz B := ⟨_, rfl⟩
            have HLC : Hid (lb = blen B ∧ cb = ctz B) := ⟨hlb, hcb⟩
            rw [← hlb, ← hcb]
            clear hlb hcb hj hB hLs hkp hcl hstep hbt hX hQ hQX cq hm hBm wx HX hm9 cj hkN
            go_wp2
            exact ⟨⟨j + 1, B, _, by go_num, rfl, by rw [HLC.out.2], by rw [HLC.out.1], by have := HZ.out.2.2.2; omega, HZ.out.1, HZ.out.2.1, HZ.out.2.2.1⟩, by have := HZ.out.2.2.2; simp [intOf]; omega⟩
          · rw [cq] at f5 hstep
            rw [Nat.mul_one] at hstep
            obtain ⟨hSB, hS2⟩ := bits_sizes m B 64 hm9 hBm
            obtain ⟨g1, g2, g3, hm4⟩ := bits_nums k j m hm hm9
            have HM4 : Hid (m ≤ 4000) := hm4
            have HM : Hid (32 * (k : Int) + (j : Int) = (m : Int)) := by show _ = _; rw [hm]; push_cast; rfl
            clear g1 g2 g3
            clear hm4 hm9
            have hB2 : blen (B + 2 ^ m) = m + 1 := blen_top B m hBm
            have hC2 : B ≠ 0 → ctz (B + 2 ^ m) = ctz B := fun h => ctz_top B m h hBm
            have hC0 : B = 0 → ctz (B + 2 ^ m) = m := fun h => by rw [h, Nat.zero_add]; exact ctz_pow m
            have hl0 := blen_eq_zero B
            obtain ⟨lb, hlb⟩ : ∃ lb, lb = blen B := ⟨_, rfl⟩
            obtain ⟨cb, hcb⟩ : ∃ cb, cb = ctz B := ⟨_, rfl⟩
            rw [← hlb] at hl0
            rw [← hcb] at hC2
            obtain ⟨B2, hB29⟩ : ∃ B2, B2 = B + 2 ^ m := ⟨_, rfl⟩
            rw [← hB29] at hB2 hC2 hC0 hstep
            have HZ : Hid (B2 = A % 2 ^ (32 * k + (j + 1)) ∧ j < 32 ∧ blen B2 = m + 1 ∧ (B ≠ 0 → ctz B2 = cb) ∧ (B = 0 → ctz B2 = m) ∧ (lb = 0 ↔ B = 0) ∧ Sm 64 B ∧ Sm 64 (2 ^ m) ∧ B2 = B + 2 ^ m) := ⟨hstep.symm, hj2, hB2, hC2, hC0, hl0, hSB, hS2, hB29⟩
            have HV : Hid (Ls wr v (dig B)) := hLs
            have HK : Hid (Kp w wr) := hkp
            rw [← hlb, ← hcb]
            clear hlb hcb hj hB hLs hkp hcl hstep hbt hX hQ hQX cq hBm wx HX cj hkN hB2 hC2 hC0 hl0 hSB hS2 hB29
            obtain ⟨gl, hgl⟩ : ∃ gl, gl = wr.heap.size := ⟨_, rfl⟩
            obtain ⟨wl, hwl⟩ : ∃ wl, wl = (wr).alloc (.cells #[.int .u32 1] 25) := ⟨_, rfl⟩
            have kpl : Kp wr wl := by rw [hwl]; exact (Kp.refl _).alloc _
            have arl : Arr wl (some ⟨gl, 0, none⟩) [1] := by
              have h := (row1 wr 1).all rfl
              rw [← hwl] at h
              rw [show gl = wr.heap.size from by exact hgl]
              exact h
            have hl : Hid (Ls wl (.slice (some ⟨gl, 0, none⟩) 1 1) [1]) := ⟨some ⟨gl, 0, none⟩, 1, rfl, arl, by simp⟩
            replace HV : Hid (Ls wl v (dig B)) := HV.out.kp kpl
            replace HK : Hid (Kp w wl) := HK.out.trans kpl
            have hc := shlL (.slice (some ⟨gl, 0, none⟩) 1 1) [1] wl m (m : Int) rfl hl.out (wd1 1 (by omega)) (Sm.mono (K := 1) (show val [1] < 4294967296 ^ 1 from by decide) (by decide)) HM4.out (by simp)
            rw [show val [1] * 2 ^ m = 2 ^ m from by rw [show val [1] = 1 from by decide, Nat.one_mul]] at hc
            clear kpl arl hl hm
            go_wp2_with fail
            rw [HM.out, ← hgl, ← hwl]
            refine hc.mono ?_
            rintro e w1 ⟨v1, rfl, hn, hk⟩
            clear hc hgl hwl
            have H1 : Hid (Ls w1 v1 (dig (2 ^ m))) := hn
            replace HV : Hid (Ls w1 v (dig B)) := HV.out.kp hk
            replace HK : Hid (Kp w w1) := HK.out.trans hk
            clear hn hk
            have hc := addL v v1 (dig B) (dig (2 ^ m)) w1 64 HV.out H1.out (Wd_dig _) (Wd_dig _) (by rw [val_dig]; exact HZ.out.2.2.2.2.2.2.1) (by rw [val_dig]; exact HZ.out.2.2.2.2.2.2.2.1) (by omega) (Nat.le_trans HZ.out.2.2.2.2.2.2.1.len (by omega)) (Nat.le_trans HZ.out.2.2.2.2.2.2.2.1.len (by omega))
            rw [val_dig, val_dig, ← HZ.out.2.2.2.2.2.2.2.2] at hc
            go_wp2_with fail
            refine hc.mono ?_
            rintro e w2 ⟨v2, rfl, hn, hk⟩
            clear hc
            have H2 : Hid (Ls w2 v2 (dig B2)) := hn
            replace HK : Hid (Kp w w2) := HK.out.trans hk
            clear hn hk HV H1
            by_cases cl : lb = 0
            · subst cl
              have HB0 : Hid (B = 0) := HZ.out.2.2.2.2.2.1.1 rfl
              go_wp2
              exact ⟨⟨j + 1, B2, _, by go_num, rfl, by rw [HZ.out.2.2.2.2.1 HB0.out, ← HM.out], by rw [HZ.out.2.2.1]; exact congrArg _ (by have := HM.out; omega), HZ.out.2.1, HZ.out.1, H2.out, HK.out⟩, by have := HZ.out.2.1; simp [intOf]; omega⟩
            · have t5 : ¬ ((lb : Int) = 0) := by omega
              have HB0 : Hid (B ≠ 0) := fun h => cl (HZ.out.2.2.2.2.2.1.2 h)
              clear cl
              go_wp2
              exact ⟨⟨j + 1, B2, _, by go_num, rfl, by rw [HZ.out.2.2.2.1 HB0.out], by rw [HZ.out.2.2.1]; exact congrArg _ (by have := HM.out; omega), HZ.out.2.1, HZ.out.1, H2.out, HK.out⟩, by have := HZ.out.2.1; simp [intOf]; omega⟩
    · have hkn2 : k = n := by omega
      have hBA : B = A := by rw [hB, hkn2]; exact Nat.mod_eq_of_lt HX.out.2.2.2.2
      have h3 : (¬ (k : Int) < (N : Int)) ∨ ((k : Int) < (N : Int) ∧ ¬ ((k : Int) < 64)) := by have := HN.out; omega
      clear hkn ck hB hkn2
      rcases h3 with t1 | ⟨t1, t2⟩
      all_goals
        have HBA : Hid (B = A) := hBA
        clear hBA
        have hc := hsh wr hkp
        clear hsh
        go_wp2_with fail
        refine hc.mono ?_
        rintro e w1 ⟨v1, rfl, h1, hk⟩
        clear hc
        have H1 : Hid (Ls w1 v1 L) := h1
        have H0 : Hid (Ls w1 v (dig B)) := hLs.kp hk
        have HK : Hid (Kp w w1) := hkp.trans hk
        clear h1 hLs hkp hk
        have hc := lives_ w1
        go_wp2_with fail
        refine hc.mono ?_
        rintro e w2 ⟨rfl, hk⟩
        clear hc
        replace H1 : Hid (Ls w2 v1 L) := H1.out.kp hk
        replace H0 : Hid (Ls w2 v (dig B)) := H0.out.kp hk
        replace HK : Hid (Kp w w2) := HK.out.trans hk
        clear hk
        have hc := normL v1 L w2 H1.out BL.out.1 BL.out.2.2
        go_wp2_with fail
        refine hc.mono ?_
        rintro e w3 ⟨v3, rfl, hn, hk⟩
        clear hc
        have H3 : Hid (Ls w3 v3 (dig (val L))) := hn
        replace H1 : Hid (Ls w3 v1 L) := H1.out.kp hk
        replace H0 : Hid (Ls w3 v (dig B)) := H0.out.kp hk
        replace HK : Hid (Kp w w3) := HK.out.trans hk
        clear hk hn
        have hc := sameL v3 v (dig (val L)) (dig B) w3 H3.out H0.out (by rw [HBA.out, HA.out]) (Nat.le_trans (Sm.len BL.out.2.1) (by omega))
        go_wp2_with fail
        refine hc.mono ?_
        rintro e w4 ⟨rfl, hk⟩
        clear hc
        replace H1 : Hid (Ls w4 v1 L) := H1.out.kp hk
        replace H0 : Hid (Ls w4 v (dig B)) := H0.out.kp hk
        replace HK : Hid (Kp w w4) := HK.out.trans hk
        clear hk H3
        obtain ⟨p1, c1, rfl, hA1, hc1⟩ := H1.out
        have hc := nlen_ p1 c1 L w4 hA1 BL.out.1 (by have := BL.out.2.2; omega) hc1
        have hd := nzeros_ p1 c1 L w4 hA1 BL.out.1 (by have := BL.out.2.2; omega) (HT.out.grown HK.out)
        have hq := cmpL (.slice p1 L.length c1) v L (dig B) w4 H1.out H0.out BL.out.1 (Wd_dig B) BL.out.2.2 (by rw [HBA.out, HA.out]; exact Nat.le_trans (Sm.len BL.out.2.1) (by omega))
        rw [val_dig, cmpN_eq (by rw [HBA.out, HA.out])] at hq
        have e1 : blen (val L) = blen B := by rw [HBA.out, HA.out]
        have e2 : ctz (val L) = ctz B := by rw [HBA.out, HA.out]
        rw [e1] at hc
        rw [e2] at hd
        obtain ⟨M, hM⟩ : ∃ M, M = L.length := ⟨_, rfl⟩
        rw [← hM] at hc hd hq ⊢
        obtain ⟨lb, hlb⟩ : ∃ lb, lb = blen B := ⟨_, rfl⟩
        obtain ⟨cb, hcb⟩ : ∃ cb, cb = ctz B := ⟨_, rfl⟩
        rw [← hlb] at hc
        rw [← hcb] at hd
        rw [← hlb, ← hcb]
        clear hA1 hc1 H1 H0 HBA HT BL e1 e2 hM hlb hcb HA HX HN
        go_wp2_with fail
        refine hc.mono ?_
        rintro e w' ⟨rfl, hw'⟩
        obtain rfl := hw'.symm
        clear hc hw'
        go_wp2_with fail
        refine hd.mono ?_
        rintro e w' ⟨rfl, hw'⟩
        obtain rfl := hw'.symm
        clear hd hw'
        go_wp2_with fail
        refine hq.mono ?_
        rintro e w5 ⟨rfl, hk⟩
        clear hq
        replace HK : Hid (Kp w w5) := HK.out.trans hk
        clear hk
        go_wp2
        exact bodyPost_ret (v := .bool true) (by simp [results, Tryd.results6, go_sem]) rfl ⟨rfl, HK.out⟩
end Go.Proofs.YtkjcnnjgaififaaDoor
