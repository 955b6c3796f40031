import Derived.Test.YtakcpoapokacgabDoorProg
import Derived.Test.YtakcpoapokacgabDoorA
import Derived.Test.YtakcpoapokacgabDoorA2
import Derived.Test.YtakcpoapokacgabDoorA3
import Derived.Test.YtakcpoapokacgabDoorA4
import Derived.Test.YtakcpoapokacgabDoorMN
import Derived.Test.YtakcpoapokacgabDoorMV
import Derived.Test.YtakcpoapokacgabDoorMP
import Derived.Test.YtakcpoapokacgabDoorMD
import Derived.Test.YtakcpoapokacgabDoorMS
import Derived.Test.YtakcpoapokacgabDoorMC
import Derived.Test.YtakcpoapokacgabDoorT1
import Derived.Test.YtakcpoapokacgabDoorT2
import Derived.Test.YtakcpoapokacgabDoorSM
import Derived.Test.YtakcpoapokacgabDoorMM
import Derived.Test.YtakcpoapokacgabDoorMPw
import Derived.Test.YtakcpoapokacgabDoorLN
import Derived.Test.YtakcpoapokacgabDoorNSm
import Derived.Test.YtakcpoapokacgabDoorNF
import Derived.Test.YtakcpoapokacgabDoorNA
import Derived.Test.YtakcpoapokacgabDoorNP
import Derived.WalkKit
import Derived.ProofKit
import Derived.RowKit3
import Derived.WalkSpells
import Derived.StillTactics
import Derived.Deep.QuietTactic
import Derived.BigQuiet
import Derived.Below
import Derived.Deep.OwnRows
import Derived.OwnWalk
namespace Go.Proofs.YtakcpoapokacgabDoor
open Go.RowKit
set_option maxRecDepth 20000 in
set_option maxHeartbeats 1000000 in
theorem npow_ (p : Option Addr) (c : Nat) (xs : List Int) (w : World) (n : Int) (hx : Arr w p xs) (hwx : Wd xs) (lx : xs.length ≤ 16777216) (hc : xs.length ≤ c) :
    Calls Tryd.prog 63 #[.slice p xs.length c, .int .i64 n] w fun e w' => ∃ v, e = .returned (.tuple #[v, .int .i64 (powN (val xs) n).2]) ∧ Own w' w.heap.size v (powN (val xs) n).1 ∧ Kp w w' := by
  have h1 := trim_ p c xs w hx (by omega) hc
  have h2 := tooLong_ p (tl xs) c
  have h3 := nsmall_ 1 (by omega) w
  have lS := tl_le xs
  have h4 := nlen_ p c (nz xs) w (hx.take _) (hwx.take _) (by rw [nz_length]; omega) (by rw [nz_length]; omega)
  have h5 := fresh_ p c (nz xs) w (hx.take _) (by rw [nz_length]; omega)
  have hnn : nz xs = dig (val (nz xs)) := by rw [val_nz]; exact nz_dig xs hwx
  have h6 := fun (m : Nat) a b c' d' => npower_ p c m (nz xs) w (hx.take _) hnn a (by rw [nz_length]; omega) b c' d'
  rw [nz_length, val_nz] at h4 h6
  rw [nz_length] at h5
  have e1 := tl_len xs hwx
  have e2 := nz_dig xs hwx
  rw [e2] at h5
  obtain ⟨a, ha⟩ : ∃ a, a = val xs := ⟨_, rfl⟩
  rw [← ha] at h4 h5 h6 e1
  obtain ⟨N, hN⟩ : ∃ N, N = xs.length := ⟨_, rfl⟩
  obtain ⟨S, hS⟩ : ∃ S, S = tl xs := ⟨_, rfl⟩
  rw [← hN, ← hS] at h1
  rw [← hS] at h2 h4 h5 h6 e1 lS
  rw [← hN, ← ha]
  have lS2 : S ≤ 16777216 := by omega
  clear hx hwx lx hc hN hS ha lS hnn e2
  by_cases c0 : n < 0
  · have e3 : powN a n = ([], 1) := by unfold powN; rw [if_pos c0]
    rw [e3]
    clear h2 h3 h4 h5 h6 e1 e3
    go_enter Tryd.func63, Tryd.ntmps63
    go_wp2_with fail
    refine h1.mono ?_; rintro e w' ⟨rfl, hw'⟩; obtain rfl := hw'.symm
    go_wp2
    exact bodyPost_ret (v := .tuple #[.slice none 0 0, .int .i64 1]) (by simp [results, Tryd.results63, go_sem] <;> simp only [*]) rfl ⟨_, rfl, Own.nil _ _, Kp.refl _⟩
  obtain ⟨m, rfl⟩ := Int.eq_ofNat_of_zero_le (by omega : 0 ≤ n)
  by_cases c1 : 16384 < S
  · have e3 : powN a (m : Int) = ([], 2) := by unfold powN; rw [if_neg c0, if_pos (by omega)]
    rw [e3]
    rw [decide_eq_true c1] at h2
    clear h3 h4 h5 h6 e1 e3 c1
    go_enter Tryd.func63, Tryd.ntmps63
    go_wp2_with fail
    refine h1.mono ?_; rintro e w' ⟨rfl, hw'⟩; obtain rfl := hw'.symm
    go_wp2_with fail
    refine (h2 _).mono ?_; rintro e w' ⟨rfl, hw'⟩; obtain rfl := hw'.symm
    go_wp2
    exact bodyPost_ret (v := .tuple #[.slice none 0 0, .int .i64 2]) (by simp [results, Tryd.results63, go_sem] <;> simp only [*]) rfl ⟨_, rfl, Own.nil _ _, Kp.refl _⟩
  rw [decide_eq_false c1] at h2
  have e0 : powN a (m : Int) = if 16384 < len32 (a ^ m) then ([], 2) else (dig (a ^ m), 0) := by unfold powN; rw [if_neg c0, if_neg (by omega), Int.toNat_natCast]
  rw [e0]
  clear e0 c0
  have t0 : ¬ ((m : Int) < 0) := by omega
  by_cases c2 : m = 0
  · subst c2
    have e3 : ¬ 16384 < len32 (a ^ 0) := by rw [Nat.pow_zero, len32_one]; omega
    rw [if_neg e3, Nat.pow_zero]
    clear h4 h5 h6 e1 e3 c1
    go_enter Tryd.func63, Tryd.ntmps63
    go_wp2_with fail
    refine h1.mono ?_; rintro e w' ⟨rfl, hw'⟩; obtain rfl := hw'.symm
    go_wp2_with fail
    refine (h2 _).mono ?_; rintro e w' ⟨rfl, hw'⟩; obtain rfl := hw'.symm
    go_wp2_with fail
    refine h3.mono ?_; rintro e w1 ⟨v, rfl, hO, hk⟩
    go_wp2
    exact bodyPost_ret (v := .tuple #[v, .int .i64 0]) (by simp [results, Tryd.results63, go_sem] <;> simp only [*]) rfl ⟨_, rfl, hO, hk⟩
  have t2 : ((m : Int) == 0) = false := by simp; omega
  obtain ⟨L, hL⟩ : ∃ L, L = blen a := ⟨_, rfl⟩
  rw [← hL] at h4
  have hLb := blen_len a 16384 (by omega)
  rw [← hL] at hLb
  by_cases c3 : L ≤ 1
  · have e3 := pow_small a m (by omega) (by omega)
    have e4 : ¬ 16384 < len32 a := by omega
    rw [e3, if_neg e4]
    have t3 : (L : Int) ≤ 1 := by omega
    have hO0 : ∀ g w1, w.heap.size ≤ g → Rw w1 g S (dig a) → Own w1 w.heap.size (.slice (some ⟨g, 0, none⟩) S S) (dig a) := fun g w1 hg hr => by
      have hd : (dig a).length = S := by rw [e1]; rfl
      have h1 := Own.of_row (base := w.heap.size) (k := S) hr hg (Nat.le_refl _) hd (by unfold maxLen; omega)
      rw [List.take_of_length_le (by omega)] at h1
      exact h1
    clear h3 h6 e3 e4 c1 c2 hL e1 hLb
    go_enter Tryd.func63, Tryd.ntmps63
    go_wp2_with fail
    refine h1.mono ?_; rintro e w' ⟨rfl, hw'⟩; obtain rfl := hw'.symm
    go_wp2_with fail
    refine (h2 _).mono ?_; rintro e w' ⟨rfl, hw'⟩; obtain rfl := hw'.symm
    go_wp2_with fail
    refine h4.mono ?_; rintro e w' ⟨rfl, hw'⟩; obtain rfl := hw'.symm
    go_wp2_with fail
    refine h5.mono ?_; rintro e w1 ⟨g, rfl, hg, hrow, hk⟩
    have hO := hO0 g w1 hg hrow
    clear hO0 hrow hg
    go_wp2
    exact bodyPost_ret (v := .tuple #[.slice (some ⟨g, 0, none⟩) S S, .int .i64 0]) (by simp [results, Tryd.results63, go_sem] <;> simp only [*]) rfl ⟨_, rfl, hO, hk⟩
  have t3 : ¬ ((L : Int) ≤ 1) := by omega
  obtain ⟨q, hq⟩ : ∃ q, q = 524287 / (L - 1) := ⟨_, rfl⟩
  obtain ⟨K, hK⟩ : ∃ K, K = L - 1 := ⟨_, rfl⟩
  have hqK : (524287 : Int).tdiv (K : Int) = (q : Int) := by
    rw [hq, ← hK]
    exact tdiv_nat 524287 K
  have f1 : (L : Int) - 1 = (K : Int) := by omega
  have f2 : ¬ ((K : Int) = 0) := by omega
  have f3 : ((K : Int) == 0) = false := by simp; omega
  have hK9 : (K : Int) < 9223372036854775808 := by omega
  have f4 := w64 (K : Int) (by omega) hK9
  have f5 := wi64 (K : Int) (Int.natCast_nonneg _) hK9
  have hq8 : (q : Int) < 9223372036854775808 := by
    have : q ≤ 524287 := by rw [hq]; exact Nat.div_le_self _ _
    omega
  have f6 := w64 (q : Int) (Int.natCast_nonneg _) hq8
  have f7 := wi64 (q : Int) (Int.natCast_nonneg _) hq8
  have HF : Hid (wrap64 (q : Int) = (q : Int) ∧ IntKind.i64.wrap (q : Int) = (q : Int) ∧ wrap64 (K : Int) = (K : Int) ∧ IntKind.i64.wrap (K : Int) = (K : Int)) := ⟨f6, f7, f4, f5⟩
  clear f4 f5 f6 f7 hq8
  by_cases c4 : q < m
  · have c5 : 16384 < len32 (a ^ m) := pow_long a m 16384 (by omega) (by rw [← hL]; exact div_long L m q hq (by omega) c4)
    rw [if_pos c5]
    have t4 : (q : Int) < (m : Int) := by omega
    obtain ⟨f6, f7, f4, f5⟩ := HF.out
    clear h3 h5 h6 c1 c2 c3 c4 c5 hL e1 hq hLb lS2 hK hK9 HF
    go_enter Tryd.func63, Tryd.ntmps63
    go_wp2_with fail
    refine h1.mono ?_; rintro e w' ⟨rfl, hw'⟩; obtain rfl := hw'.symm
    go_wp2_with fail
    refine (h2 _).mono ?_; rintro e w' ⟨rfl, hw'⟩; obtain rfl := hw'.symm
    go_wp2_with fail
    refine h4.mono ?_; rintro e w' ⟨rfl, hw'⟩; obtain rfl := hw'.symm
    go_wp2_with fail
    refine h4.mono ?_; rintro e w' ⟨rfl, hw'⟩; obtain rfl := hw'.symm
    go_wp2
    exact bodyPost_ret (v := .tuple #[.slice none 0 0, .int .i64 2]) (by simp [results, Tryd.results63, go_sem] <;> simp only [*]) rfl ⟨_, rfl, Own.nil _ _, Kp.refl _⟩
  have t4 : ¬ ((q : Int) < (m : Int)) := by omega
  have hq9 : q ≤ 524287 := by rw [hq]; exact Nat.div_le_self _ _
  have h7 := h6 m (by omega) (two_le a (by omega)) (by omega) (by omega)
  obtain ⟨f6, f7, f4, f5⟩ := HF.out
  clear HF
  clear h3 h5 h6 c1 c2 c3 c4 hL e1 hq hLb lS2 hK hK9 hq9
  by_cases c5 : 16384 < len32 (a ^ m)
  · rw [if_pos c5, if_pos c5] at h7
    rw [if_pos c5]
    clear c5
    go_enter Tryd.func63, Tryd.ntmps63
    go_wp2_with fail
    refine h1.mono ?_; rintro e w' ⟨rfl, hw'⟩; obtain rfl := hw'.symm
    go_wp2_with fail
    refine (h2 _).mono ?_; rintro e w' ⟨rfl, hw'⟩; obtain rfl := hw'.symm
    go_wp2_with fail
    refine h4.mono ?_; rintro e w' ⟨rfl, hw'⟩; obtain rfl := hw'.symm
    go_wp2_with fail
    refine h4.mono ?_; rintro e w' ⟨rfl, hw'⟩; obtain rfl := hw'.symm
    go_wp2_with fail
    refine h7.mono ?_; rintro e w1 ⟨v, rfl, hO, hk⟩
    go_wp2
    exact bodyPost_ret (v := .tuple #[v, .int .i64 2]) (by simp [results, Tryd.results63, go_sem] <;> simp only [*]) rfl ⟨_, rfl, hO, hk⟩
  · rw [if_neg c5, if_neg c5] at h7
    rw [if_neg c5]
    clear c5
    go_enter Tryd.func63, Tryd.ntmps63
    go_wp2_with fail
    refine h1.mono ?_; rintro e w' ⟨rfl, hw'⟩; obtain rfl := hw'.symm
    go_wp2_with fail
    refine (h2 _).mono ?_; rintro e w' ⟨rfl, hw'⟩; obtain rfl := hw'.symm
    go_wp2_with fail
    refine h4.mono ?_; rintro e w' ⟨rfl, hw'⟩; obtain rfl := hw'.symm
    go_wp2_with fail
    refine h4.mono ?_; rintro e w' ⟨rfl, hw'⟩; obtain rfl := hw'.symm
    go_wp2_with fail
    refine h7.mono ?_; rintro e w1 ⟨v, rfl, hO, hk⟩
    go_wp2
    exact bodyPost_ret (v := .tuple #[v, .int .i64 0]) (by simp [results, Tryd.results63, go_sem] <;> simp only [*]) rfl ⟨_, rfl, hO, hk⟩
end Go.Proofs.YtakcpoapokacgabDoor
