import Derived.Test.YtgiffpohngaonaaGreatDoorProg
import Derived.Test.YtgiffpohngaonaaGreatDoorKXA0
import Derived.Test.YtgiffpohngaonaaGreatDoorKXM
import Derived.Test.YtgiffpohngaonaaGreatDoorKXT
import Derived.Test.YtgiffpohngaonaaGreatDoorKXPR
import Derived.Test.YtgiffpohngaonaaGreatDoorKLB
import Derived.Test.YtgiffpohngaonaaGreatDoorKLN
import Derived.Test.YtgiffpohngaonaaGreatDoorKXSL
import Derived.Test.YtgiffpohngaonaaGreatDoorKXNS
import Derived.Test.YtgiffpohngaonaaGreatDoorKXQ
import Derived.Test.YtgiffpohngaonaaGreatDoorKTO
import Derived.Test.YtgiffpohngaonaaGreatDoorKXLB
import Derived.Test.YtgiffpohngaonaaGreatDoorKXTZ
import Derived.Test.YtgiffpohngaonaaGreatDoorKXBW
import Derived.Test.YtgiffpohngaonaaGreatDoorKXNM
import Derived.Test.YtgiffpohngaonaaGreatDoorKW4
import Derived.Test.YtgiffpohngaonaaGreatDoorKXRW
import Derived.WalkKit
import Derived.ProofKit
import Derived.RowKit3
import Derived.WalkSpells
import Derived.StillTactics
import Derived.Deep.QuietTactic
import Derived.BigQuiet
import Derived.Below
import Derived.Deep.OwnRows
import Derived.OwnWalk
namespace Go.Proofs.YtgiffpohngaonaaGreatDoor
open Go.RowKit
set_option maxRecDepth 20000 in
set_option maxHeartbeats 1000000 in
theorem root2_ (p : Option Addr) (c : Nat) (xs : List Int) (w : World) (hx : Arr w p xs) (hwx : Wd xs) (l2 : xs.length ≤ 2) :
    Calls Tryz.prog 82 #[.slice p xs.length c] w fun e w' => ∃ v, e = .returned v ∧ Two w' w.heap.size (dig (rtN (val xs))) (dig (val xs - rtN (val xs) * rtN (val xs))) v ∧ Kp w w' := by
  have hlo := lowest_ p c xs w hx hwx l2
  have hv : val xs < 18446744073709551616 := by
    have h1 := val_lt xs hwx
    have h2 : 4294967296 ^ xs.length ≤ 4294967296 ^ 2 := Nat.pow_le_pow_right (by omega) l2
    have h3 : (4294967296 : Nat) ^ 2 = 18446744073709551616 := by decide
    omega
  have hrw := rootOfWord_ (val xs) hv w
  obtain ⟨N, hN⟩ : ∃ N, N = xs.length := ⟨_, rfl⟩
  obtain ⟨V, hV⟩ : ∃ V, V = val xs := ⟨_, rfl⟩
  rw [← hN, ← hV] at hlo
  rw [← hV] at hrw
  rw [← hN, ← hV]
  have t1 : (N : Int) ≤ 2 := by omega
  clear hx hwx l2 hv hN hV
  go_enter Tryz.func82, Tryz.ntmps82
  go_wp2_with fail
  refine hlo.mono ?_; rintro e w' ⟨rfl, hw'⟩; obtain rfl := hw'.symm; clear hlo
  go_wp2_with fail
  refine hrw.mono ?_
  rintro e w2 ⟨v, rfl, ⟨p1, c1, p2, c2, rfl, o1, o2, hne⟩, hk2⟩
  obtain ⟨L1, hL1⟩ : ∃ L1, L1 = (dig (rtN V)).length := ⟨_, rfl⟩
  obtain ⟨L2, hL2⟩ : ∃ L2, L2 = (dig (V - rtN V * rtN V)).length := ⟨_, rfl⟩
  have HZ : Hid (Two w2 w.heap.size (dig (rtN V)) (dig (V - rtN V * rtN V)) (.tuple #[.slice p1 L1 c1, .slice p2 L2 c2]) ∧ Kp w w2) := ⟨⟨p1, c1, p2, c2, by rw [hL1, hL2], o1, o2, hne⟩, hk2⟩
  rw [← hL1, ← hL2]
  clear hrw o1 o2 hne hk2 hL1 hL2 t1
  go_wp2
  exact bodyPost_ret (v := .tuple #[.slice p1 L1 c1, .slice p2 L2 c2]) (by simp [results, Tryz.results82, go_sem]) rfl ⟨_, rfl, HZ.out.1, HZ.out.2⟩
set_option maxRecDepth 20000 in
set_option maxHeartbeats 1000000 in
theorem nroot_of (p : Option Addr) (c : Nat) (xs : List Int) (w : World) (hx : Arr w p xs) (hwx : Wd xs) (lx : xs.length ≤ 1048576) (hc : xs.length ≤ c)
    (hroot : ¬ 16384 < tl xs → Calls Tryz.prog 82 #[.slice p (tl xs) c] w fun e w' => ∃ v, e = .returned v ∧ Two w' w.heap.size (dig (rtN (val xs))) (dig (val xs - rtN (val xs) * rtN (val xs))) v ∧ Kp w w') :
    Calls Tryz.prog 56 #[.slice p xs.length c] w fun e w' => ∃ v, e = .returned (.tuple #[v, .bool (rootN (val xs)).2.1, .int .i64 (rootN (val xs)).2.2]) ∧ Own w' w.heap.size v (rootN (val xs)).1 ∧ Kp w w' := by
  have h1 := trim_ p c xs w hx (by omega) hc
  have l1 := tooLong_ p (tl xs) c w
  have hlx : tl xs = len32 (val xs) := tl_len xs hwx
  obtain ⟨N, hN⟩ : ∃ N, N = xs.length := ⟨_, rfl⟩
  obtain ⟨S, hS⟩ : ∃ S, S = tl xs := ⟨_, rfl⟩
  obtain ⟨V, hV⟩ : ∃ V, V = val xs := ⟨_, rfl⟩
  rw [← hN, ← hS] at h1
  rw [← hS] at l1 hlx hroot
  rw [← hV] at hlx hroot
  rw [← hN, ← hV]
  clear hx hwx lx hc hN hS hV
  unfold rootN
  by_cases cl : 16384 < len32 V
  · rw [← hlx] at cl ⊢
    simp only [if_pos cl]
    rw [decide_eq_true cl] at l1
    clear hroot hlx cl
    go_enter Tryz.func56, Tryz.ntmps56
    go_wp2_with fail
    refine h1.mono ?_; rintro e w' ⟨rfl, hw'⟩; obtain rfl := hw'.symm; clear h1
    go_wp2_with fail
    refine l1.mono ?_; rintro e w' ⟨rfl, hw'⟩; obtain rfl := hw'.symm; clear l1
    go_wp2
    exact bodyPost_ret (v := .tuple #[.slice none 0 0, .bool false, .int .i64 2]) (by simp [results, Tryz.results56, go_sem]) rfl ⟨_, rfl, Own.nil _ _, Kp.refl _⟩
  · rw [← hlx] at cl ⊢
    simp only [if_neg cl]
    have hr := hroot cl
    rw [decide_eq_false cl] at l1
    obtain ⟨D, hD⟩ : ∃ D, D = V - rtN V * rtN V := ⟨_, rfl⟩
    obtain ⟨R, hR⟩ : ∃ R, R = rtN V := ⟨_, rfl⟩
    have hle := (rtN_is V).1
    rw [← hD, ← hR] at hr
    rw [← hR] at hle hD ⊢
    have hb : decide (V = R * R) = decide (D = 0) := by
      by_cases e : D = 0
      · rw [decide_eq_true e, decide_eq_true (by omega)]
      · rw [decide_eq_false e, decide_eq_false (by omega)]
    rw [hb]
    clear hroot hlx cl hD hR hle hb
    go_enter Tryz.func56, Tryz.ntmps56
    go_wp2_with fail
    refine h1.mono ?_; rintro e w' ⟨rfl, hw'⟩; obtain rfl := hw'.symm; clear h1
    go_wp2_with fail
    refine l1.mono ?_; rintro e w' ⟨rfl, hw'⟩; obtain rfl := hw'.symm; clear l1
    go_wp2_with fail
    refine hr.mono ?_
    rintro e w2 ⟨v, rfl, ⟨p1, c1, p2, c2, rfl, o1, o2, hne⟩, hk2⟩
    obtain ⟨L1, hL1⟩ : ∃ L1, L1 = (dig R).length := ⟨_, rfl⟩
    obtain ⟨L2, hL2⟩ : ∃ L2, L2 = (dig D).length := ⟨_, rfl⟩
    have h0 := dig_len_zero D
    rw [← hL2] at h0
    obtain ⟨bb, hbb⟩ : ∃ bb, bb = decide (D = 0) := ⟨_, rfl⟩
    have tb : decide ((L2 : Int) = 0) = bb := by
      rw [hbb]
      by_cases e : D = 0
      · rw [decide_eq_true e, decide_eq_true (by have := h0.2 e; omega)]
      · rw [decide_eq_false e, decide_eq_false (by have := mt h0.1 e; omega)]
    have tb2 : ((L2 : Int) == 0) = bb := tb
    have HZ : Hid (Own w2 w.heap.size (.slice p1 L1 c1) (dig R) ∧ Kp w w2 ∧ bb = decide (D = 0)) := ⟨by rw [hL1]; exact o1, hk2, hbb⟩
    rw [← hL1, ← hL2]
    clear hr o1 o2 hne hk2 hL1 hL2 h0 hbb tb
    go_wp2
    exact bodyPost_ret (v := .tuple #[.slice p1 L1 c1, .bool bb, .int .i64 0]) (by simp [results, Tryz.results56, go_sem]) rfl ⟨_, by rw [HZ.out.2.2], HZ.out.1, HZ.out.2.1⟩
theorem row3 (w : World) (x y z : Int) : Rw (w.alloc (.cells #[.int .u32 x, .int .u32 y, .int .u32 z] 83)) w.heap.size 3 [x, y, z] := by
  have := World.rowIs_alloc w #[.int .u32 x, .int .u32 y, .int .u32 z] 83 (fun i => .int .u32 ([x, y, z].getD i 0)) (fun i hi => by
    have h : i = 0 ∨ i = 1 ∨ i = 2 := by simp at hi; omega
    rcases h with rfl | rfl | rfl <;> rfl)
  exact this
end Go.Proofs.YtgiffpohngaonaaGreatDoor
