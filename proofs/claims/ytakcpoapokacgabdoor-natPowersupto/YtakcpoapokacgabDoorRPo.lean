import Derived.Test.YtakcpoapokacgabDoorProg
import Derived.Test.YtakcpoapokacgabDoorA
import Derived.Test.YtakcpoapokacgabDoorA2
import Derived.Test.YtakcpoapokacgabDoorA3
import Derived.Test.YtakcpoapokacgabDoorA4
import Derived.Test.YtakcpoapokacgabDoorMN
import Derived.Test.YtakcpoapokacgabDoorMV
import Derived.Test.YtakcpoapokacgabDoorMP
import Derived.Test.YtakcpoapokacgabDoorMD
import Derived.Test.YtakcpoapokacgabDoorMS
import Derived.Test.YtakcpoapokacgabDoorMC
import Derived.Test.YtakcpoapokacgabDoorT1
import Derived.Test.YtakcpoapokacgabDoorT2
import Derived.Test.YtakcpoapokacgabDoorSM
import Derived.Test.YtakcpoapokacgabDoorMM
import Derived.Test.YtakcpoapokacgabDoorMPw
import Derived.Test.YtakcpoapokacgabDoorLN
import Derived.Test.YtakcpoapokacgabDoorRN
import Derived.Test.YtakcpoapokacgabDoorNSm
import Derived.Test.YtakcpoapokacgabDoorRPw
import Derived.WalkKit
import Derived.ProofKit
import Derived.RowKit3
import Derived.WalkSpells
import Derived.StillTactics
import Derived.Deep.QuietTactic
import Derived.BigQuiet
import Derived.Below
import Derived.Deep.OwnRows
import Derived.OwnWalk
namespace Go.Proofs.YtakcpoapokacgabDoor
open Go.RowKit
set_option maxRecDepth 20000 in
set_option maxHeartbeats 1000000 in
theorem rpow_ (p : Option Addr) (c : Nat) (xs : List Int) (w : World) (n : Int) (hx : Arr w p xs) (hwx : Wd xs) (lx : xs.length ≤ 16777216) :
    Calls Tryd.prog 47 #[.slice p xs.length c, .int .i64 n] w fun e w' => ∃ v, e = .returned (.tuple #[v, .int .i64 (powN (val xs) n).2]) ∧ Own w' w.heap.size v (powN (val xs) n).1 ∧ Kp w w' := by
  have h2 := long_ p c xs w hx (by omega)
  have h4 := rlen_ p c xs w hx hwx (by omega)
  have h5 := rnorm_ p c xs w hx (by omega)
  have h6 := fun (m : Nat) => rpower_ p c m xs w hx hwx lx
  have e1 := tl_len xs hwx
  have lS := tl_le xs
  rw [nz_dig xs hwx] at h5
  obtain ⟨a, ha⟩ : ∃ a, a = val xs := ⟨_, rfl⟩
  rw [← ha] at h4 h5 h6 e1
  obtain ⟨N, hN⟩ : ∃ N, N = xs.length := ⟨_, rfl⟩
  obtain ⟨S, hS⟩ : ∃ S, S = tl xs := ⟨_, rfl⟩
  rw [← hN] at h2 h4 h5 h6
  rw [← hS] at h2 e1 lS
  rw [← hN, ← ha]
  have lS2 : S ≤ 16777216 := by omega
  clear hx hwx lx hN hS ha lS
  by_cases c0 : n < 0
  · have e3 : powN a n = ([], 1) := by unfold powN; rw [if_pos c0]
    rw [e3]
    clear h2 h4 h5 h6 e1 e3 lS2
    go_enter Tryd.func47, Tryd.ntmps47
    go_wp2
    exact bodyPost_ret (v := .tuple #[.slice none 0 0, .int .i64 1]) (by simp [results, Tryd.results47, go_sem] <;> simp only [*]) rfl ⟨_, rfl, Own.nil _ _, Kp.refl _⟩
  obtain ⟨m, rfl⟩ := Int.eq_ofNat_of_zero_le (by omega : 0 ≤ n)
  by_cases c1 : 16384 < S
  · have e3 : powN a (m : Int) = ([], 2) := by unfold powN; rw [if_neg c0, if_pos (by omega)]
    rw [e3]
    rw [decide_eq_true c1] at h2
    clear h4 h5 h6 e1 e3 c1 lS2
    go_enter Tryd.func47, Tryd.ntmps47
    go_wp2_with fail
    refine h2.mono ?_; rintro e w' ⟨rfl, hw'⟩; obtain rfl := hw'.symm
    go_wp2
    exact bodyPost_ret (v := .tuple #[.slice none 0 0, .int .i64 2]) (by simp [results, Tryd.results47, go_sem] <;> simp only [*]) rfl ⟨_, rfl, Own.nil _ _, Kp.refl _⟩
  rw [decide_eq_false c1] at h2
  have e0 : powN a (m : Int) = if 16384 < len32 (a ^ m) then ([], 2) else (dig (a ^ m), 0) := by unfold powN; rw [if_neg c0, if_neg (by omega), Int.toNat_natCast]
  rw [e0]
  clear e0 c0
  have t0 : ¬ ((m : Int) < 0) := by omega
  by_cases c2 : m = 0
  · subst c2
    have e3 : ¬ 16384 < len32 (a ^ 0) := by rw [Nat.pow_zero, len32_one]; omega
    rw [if_neg e3, Nat.pow_zero, dig_one]
    have hO1 := own1 w
    have hk1 : Kp w (w.alloc (.cells #[.int .u32 1] 37)) := (Kp.refl w).alloc _
    obtain ⟨L0, hL0⟩ : ∃ L0, L0 = blen a := ⟨_, rfl⟩
    rw [← hL0] at h4
    clear h5 h6 e1 e3 c1 lS2 hL0
    go_enter Tryd.func47, Tryd.ntmps47
    go_wp2_with fail
    refine h2.mono ?_; rintro e w' ⟨rfl, hw'⟩; obtain rfl := hw'.symm
    go_wp2_with fail
    refine h4.mono ?_; rintro e w' ⟨rfl, hw'⟩; obtain rfl := hw'.symm
    go_wp2
    exact bodyPost_ret (v := .tuple #[.slice (some ⟨w.heap.size, 0, none⟩) 1 1, .int .i64 0]) (by simp [results, Tryd.results47, go_sem] <;> simp only [*]) rfl ⟨_, rfl, hO1, hk1⟩
  have t2 : ((m : Int) == 0) = false := by simp; omega
  obtain ⟨L, hL⟩ : ∃ L, L = blen a := ⟨_, rfl⟩
  rw [← hL] at h4
  have hLb := blen_len a 16384 (by omega)
  rw [← hL] at hLb
  by_cases c3 : L ≤ 1
  · have e3 := pow_small a m (by omega) (by omega)
    have e4 : ¬ 16384 < len32 a := by omega
    rw [e3, if_neg e4]
    have t3 : (L : Int) < 2 := by omega
    clear h6 e3 e4 c1 c2 hL e1 hLb lS2 c3
    go_enter Tryd.func47, Tryd.ntmps47
    go_wp2_with fail
    refine h2.mono ?_; rintro e w' ⟨rfl, hw'⟩; obtain rfl := hw'.symm
    go_wp2_with fail
    refine h4.mono ?_; rintro e w' ⟨rfl, hw'⟩; obtain rfl := hw'.symm
    go_wp2_with fail
    refine h5.mono ?_; rintro e w1 ⟨v, rfl, hO, hk⟩
    go_wp2
    exact bodyPost_ret (v := .tuple #[v, .int .i64 0]) (by simp [results, Tryd.results47, go_sem] <;> simp only [*]) rfl ⟨_, rfl, hO, hk⟩
  have t3 : ¬ ((L : Int) < 2) := by omega
  obtain ⟨q, hq⟩ : ∃ q, q = 524288 / (L - 1) := ⟨_, rfl⟩
  obtain ⟨K, hK⟩ : ∃ K, K = L - 1 := ⟨_, rfl⟩
  have hqK : (524288 : Int).tdiv (K : Int) = (q : Int) := by
    rw [hq, ← hK]
    exact tdiv_nat 524288 K
  have f1 : (L : Int) - 1 = (K : Int) := by omega
  have f2 : ¬ ((K : Int) = 0) := by omega
  have f3 : ((K : Int) == 0) = false := by simp; omega
  have hK9 : (K : Int) < 9223372036854775808 := by omega
  have hq9 : q ≤ 524288 := by rw [hq]; exact Nat.div_le_self _ _
  have hq8 : (q : Int) < 9223372036854775808 := by omega
  have HF : Hid (wrap64 (q : Int) = (q : Int) ∧ IntKind.i64.wrap (q : Int) = (q : Int) ∧ wrap64 (K : Int) = (K : Int) ∧ IntKind.i64.wrap (K : Int) = (K : Int)) := ⟨w64 (q : Int) (Int.natCast_nonneg _) hq8, wi64 (q : Int) (Int.natCast_nonneg _) hq8, w64 (K : Int) (Int.natCast_nonneg _) hK9, wi64 (K : Int) (Int.natCast_nonneg _) hK9⟩
  clear hq8 hK9
  by_cases c4 : q < m
  · have c5 : 16384 < len32 (a ^ m) := pow_long a m 16384 (by omega) (by rw [← hL]; exact div_long8 L m q hq (by omega) c4)
    rw [if_pos c5]
    have t4 : (q : Int) < (m : Int) := by omega
    obtain ⟨f6, f7, f4, f5⟩ := HF.out
    clear h5 h6 c1 c2 c3 c4 c5 hL e1 hq hLb lS2 hK HF hq9
    go_enter Tryd.func47, Tryd.ntmps47
    go_wp2_with fail
    refine h2.mono ?_; rintro e w' ⟨rfl, hw'⟩; obtain rfl := hw'.symm
    go_wp2_with fail
    refine h4.mono ?_; rintro e w' ⟨rfl, hw'⟩; obtain rfl := hw'.symm
    go_wp2
    exact bodyPost_ret (v := .tuple #[.slice none 0 0, .int .i64 2]) (by simp [results, Tryd.results47, go_sem] <;> simp only [*]) rfl ⟨_, rfl, Own.nil _ _, Kp.refl _⟩
  have t4 : ¬ ((q : Int) < (m : Int)) := by omega
  have hbd := pow_bound a m 32768 (by rw [← hL]; exact div_short L m q hq (by omega) (by omega))
  have h7 := h6 m (two_le a (by omega)) (by omega) (by omega)
  have hlen : (dig (a ^ m)).length ≤ 1099511627776 := by
    have : (dig (a ^ m)).length = len32 (a ^ m) := rfl
    omega
  obtain ⟨f6, f7, f4, f5⟩ := HF.out
  obtain ⟨Z, hZ⟩ : ∃ Z, Z = a ^ m := ⟨_, rfl⟩
  rw [← hZ] at h7 hlen ⊢
  have HL : Hid ((dig Z).length ≤ 1099511627776) := hlen
  clear h5 h6 c1 c2 c3 c4 hL e1 hq hLb lS2 hK hq9 hbd hlen hZ HF
  by_cases c5 : 16384 < len32 Z
  · rw [if_pos c5]
    have HC : Hid (16384 < len32 Z) := c5
    clear c5
    go_enter Tryd.func47, Tryd.ntmps47
    go_wp2_with fail
    refine h2.mono ?_; rintro e w' ⟨rfl, hw'⟩; obtain rfl := hw'.symm
    go_wp2_with fail
    refine h4.mono ?_; rintro e w' ⟨rfl, hw'⟩; obtain rfl := hw'.symm
    go_wp2_with fail
    refine h7.mono ?_; rintro e w1 ⟨v, rfl, hO, hk⟩
    obtain ⟨p1, cc, rfl, hA, _⟩ := hO.arr
    have hf := fit_ p1 cc (dig Z) w1 hA HL.out
    rw [tl_dig, if_pos HC.out] at hf
    obtain ⟨D, hD⟩ : ∃ D, D = (dig Z).length := ⟨_, rfl⟩
    rw [← hD] at hf ⊢
    clear hO hA hD h7 HL HC f4 f5 f6 f7
    go_wp2_with fail
    refine hf.mono ?_; rintro e w2 ⟨rfl, hw2⟩; obtain rfl := hw2.symm
    go_wp2
    exact bodyPost_ret (v := .tuple #[.slice none 0 0, .int .i64 2]) (by simp [results, Tryd.results47, go_sem] <;> simp only [*]) rfl ⟨_, rfl, Own.nil _ _, hk⟩
  · rw [if_neg c5]
    have HC : Hid (¬ 16384 < len32 Z) := c5
    clear c5
    go_enter Tryd.func47, Tryd.ntmps47
    go_wp2_with fail
    refine h2.mono ?_; rintro e w' ⟨rfl, hw'⟩; obtain rfl := hw'.symm
    go_wp2_with fail
    refine h4.mono ?_; rintro e w' ⟨rfl, hw'⟩; obtain rfl := hw'.symm
    go_wp2_with fail
    refine h7.mono ?_; rintro e w1 ⟨v, rfl, hO, hk⟩
    obtain ⟨p1, cc, rfl, hA, _⟩ := hO.arr
    have hf := fit_ p1 cc (dig Z) w1 hA HL.out
    rw [tl_dig, if_neg HC.out] at hf
    obtain ⟨D, hD⟩ : ∃ D, D = (dig Z).length := ⟨_, rfl⟩
    have hO' : Own w1 w.heap.size (.slice p1 D cc) (dig Z) := by rw [hD]; exact hO
    rw [← hD] at hf ⊢
    clear hO hA hD h7 HL HC f4 f5 f6 f7
    go_wp2_with fail
    refine hf.mono ?_; rintro e w2 ⟨rfl, hw2⟩; obtain rfl := hw2.symm
    go_wp2
    exact bodyPost_ret (v := .tuple #[.slice p1 D cc, .int .i64 0]) (by simp [results, Tryd.results47, go_sem] <;> simp only [*]) rfl ⟨_, rfl, hO', hk⟩
end Go.Proofs.YtakcpoapokacgabDoor
