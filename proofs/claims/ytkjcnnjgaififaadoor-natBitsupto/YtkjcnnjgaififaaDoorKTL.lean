import Derived.Test.YtkjcnnjgaififaaDoorProg
import Derived.Test.YtkjcnnjgaififaaDoorKA
import Derived.Test.YtkjcnnjgaififaaDoorKA2
import Derived.Test.YtkjcnnjgaififaaDoorKA3
import Derived.Test.YtkjcnnjgaififaaDoorKA4
import Derived.Test.YtkjcnnjgaififaaDoorKXM
import Derived.Test.YtkjcnnjgaififaaDoorKXT
import Derived.Test.YtkjcnnjgaififaaDoorKA5
import Derived.Test.YtkjcnnjgaififaaDoorKAT
import Derived.Test.YtkjcnnjgaififaaDoorKLB
import Derived.Test.YtkjcnnjgaififaaDoorKLN
import Derived.Test.YtkjcnnjgaififaaDoorKPR
import Derived.Test.YtkjcnnjgaififaaDoorKSL
import Derived.Test.YtkjcnnjgaififaaDoorKSR
import Derived.Test.YtkjcnnjgaififaaDoorKNF
import Derived.Test.YtkjcnnjgaififaaDoorKXQ
import Derived.Test.YtkjcnnjgaififaaDoorKTO
import Derived.Test.YtkjcnnjgaififaaDoorKHB
import Derived.Test.YtkjcnnjgaififaaDoorKZE
import Derived.Test.YtkjcnnjgaififaaDoorKTZ
import Derived.Test.YtkjcnnjgaififaaDoorKBW
import Derived.Test.YtkjcnnjgaififaaDoorKNSm
import Derived.Test.YtkjcnnjgaififaaDoorKW4
import Derived.Test.YtkjcnnjgaififaaDoorKRW
import Derived.Test.YtkjcnnjgaififaaDoorKXN
import Derived.Test.YtkjcnnjgaififaaDoorKNS
import Derived.Test.YtkjcnnjgaififaaDoorKNM
import Derived.Test.YtkjcnnjgaififaaDoorKNPw
import Derived.Test.YtkjcnnjgaififaaDoorKXS
import Derived.Test.YtkjcnnjgaififaaDoorKLI
import Derived.Test.YtkjcnnjgaififaaDoorKLS
import Derived.Test.YtkjcnnjgaififaaDoorKNQ
import Derived.Test.YtkjcnnjgaififaaDoorKNC
import Derived.Test.YtkjcnnjgaififaaDoorKRT9
import Derived.WalkKit
import Derived.ProofKit
import Derived.RowKit3
import Derived.WalkSpells
import Derived.StillTactics
import Derived.Deep.QuietTactic
import Derived.BigQuiet
import Derived.Below
import Derived.Deep.OwnRows
import Derived.OwnWalk
namespace Go.Proofs.YtkjcnnjgaififaaDoor
open Go.RowKit
set_option maxRecDepth 20000 in
theorem quoL (v1 v2 : Value) (L1 L2 : List Int) (w : World) (K : Nat) (h1 : Ls w v1 L1) (h2 : Ls w v2 L2) (w1 : Wd L1) (w2 : Wd L2) (s1 : Sm K (val L1)) (s2 : Sm K (val L2)) (hk : K ≤ 16384) (h0 : val L2 ≠ 0) (l1 : L1.length ≤ 1048576) (l2 : L2.length ≤ 1048576) :
    Calls Tryd.prog 23 #[v1, v2] w fun e w' => ∃ q r, e = .returned (.tuple #[q, r, .int .i64 0]) ∧ Ls w' q (dig (val L1 / val L2)) ∧ Ls w' r (dig (val L1 % val L2)) ∧ Kp w w' := by
  obtain ⟨p, c, rfl, hA, hc⟩ := h1
  obtain ⟨q, d, rfl, hB, hd⟩ := h2
  have h := nquo_ p q c d L1 L2 w hA hB w1 w2 l1 l2 hc hd
  rw [quoN_ok h0 (Nat.le_trans s1.len hk) (Nat.le_trans s2.len hk)] at h
  exact h.mono fun e w' ⟨⟨p1, c1, p2, c2, he, o1, o2, _⟩, hk⟩ => ⟨_, _, he, o1.ls, o2.ls, hk⟩
set_option maxRecDepth 20000 in
theorem rootL (v1 : Value) (L1 : List Int) (s : Nat) (w : World) (K : Nat) (h1 : Ls w v1 L1) (w1 : Wd L1) (s1 : Sm K (val L1)) (hk : K ≤ 16384) (l1 : L1.length ≤ 1048576) (hs : IsRt (val L1) s) :
    Calls Tryd.prog 24 #[v1] w fun e w' => ∃ v, e = .returned (.tuple #[v, .bool (decide (val L1 = s * s)), .int .i64 0]) ∧ Ls w' v (dig s) ∧ Kp w w' := by
  obtain ⟨p, c, rfl, hA, hc⟩ := h1
  have hl := Nat.le_trans s1.len hk
  have h := nroot_of p c L1 w hA w1 l1 hc (fun _ => by
    have e1 : nz L1 = dig (val L1) := nz_dig L1 w1
    have hA2 : Arr w p (dig (val L1)) := by rw [← e1]; exact hA.take _
    have e2 : tl L1 = (dig (val L1)).length := tl_len L1 w1
    have e3 := tl_le L1
    rw [e2]
    exact root_ (val L1) p c w hA2 (by omega) hl)
  rw [rootN_ok hl hs] at h
  exact h.mono fun e w' ⟨v, a, b, k⟩ => ⟨v, a, b.ls, k⟩
set_option maxRecDepth 20000 in
theorem shlL (v1 : Value) (L1 : List Int) (w : World) (n : Nat) (z : Int) (hz : z = (n : Int)) (h1 : Ls w v1 L1) (w1 : Wd L1) (s1 : Sm 64 (val L1)) (hn : n ≤ 4000) (l1 : L1.length ≤ 1048576) :
    Calls Tryd.prog 13 #[v1, .int .i64 z] w fun e w' => ∃ v, e = .returned (.tuple #[v, .int .i64 0]) ∧ Ls w' v (dig (val L1 * 2 ^ n)) ∧ Kp w w' := by
  subst hz
  obtain ⟨p, c, rfl, hA, hc⟩ := h1
  have h := nshl_ p c L1 w (n : Int) hA w1 (by omega) hc
  rw [shlN_ok s1.len hn] at h
  exact h.mono fun e w' ⟨v, a, b, k⟩ => ⟨v, a, b.ls, k⟩
set_option maxRecDepth 20000 in
theorem shrL (v1 : Value) (L1 : List Int) (w : World) (n : Nat) (z : Int) (hz : z = (n : Int)) (hT : Tab w) (h1 : Ls w v1 L1) (w1 : Wd L1) (s1 : len32 (val L1) ≤ 16384) (hn : n ≤ 4000) (l1 : L1.length ≤ 1048576) :
    Calls Tryd.prog 14 #[v1, .int .i64 z] w fun e w' => ∃ v, e = .returned (.tuple #[v, .bool (decide (val L1 % 2 ^ n ≠ 0)), .int .i64 0]) ∧ Ls w' v (dig (val L1 / 2 ^ n)) ∧ Kp w w' := by
  subst hz
  obtain ⟨p, c, rfl, hA, hc⟩ := h1
  have h := nshr_ p c L1 w (n : Int) (by omega) hT hA w1 l1 hc
  rw [shrN_ok s1] at h
  exact h.mono fun e w' ⟨v, a, b, k⟩ => ⟨v, a, b.ls, k⟩
set_option maxRecDepth 20000 in
theorem cmpL (v1 v2 : Value) (L1 L2 : List Int) (w : World) (h1 : Ls w v1 L1) (h2 : Ls w v2 L2) (w1 : Wd L1) (w2 : Wd L2) (l1 : L1.length ≤ 1048576) (l2 : L2.length ≤ 1048576) :
    Calls Tryd.prog 15 #[v1, v2] w fun e w' => e = .returned (.int .i64 (cmpN (val L1) (val L2))) ∧ Kp w w' := by
  obtain ⟨p, c, rfl, hA, hc⟩ := h1
  obtain ⟨q, d, rfl, hB, hd⟩ := h2
  exact ncmp_ p q c d L1 L2 w hA hB w1 w2 (by omega) (by omega) hc hd
set_option maxRecDepth 20000 in
theorem powLz2 (v1 : Value) (L1 : List Int) (w : World) (K n : Nat) (z : Int) (hz : z = (n : Int)) (h1 : Ls w v1 L1) (w1 : Wd L1) (s1 : Sm K (val L1)) (hK : 0 < K) (hk : K ≤ 16384) (hn : K * n ≤ 16384) (l1 : L1.length ≤ 1048576) :
    Calls Tryd.prog 11 #[v1, .int .i64 z] w fun e w' => ∃ v, e = .returned (.tuple #[v, .int .i64 0]) ∧ Ls w' v (dig (val L1 ^ n)) ∧ Kp w w' := by
  subst hz
  exact powL v1 L1 w K n h1 w1 s1 hK hk hn l1
set_option maxRecDepth 20000 in
theorem digB2 {K n : Nat} (h : Sm K n) (hk : K ≤ 1048576) : Wd (dig n) ∧ Sm K (val (dig n)) ∧ (dig n).length ≤ 1048576 := ⟨Wd_dig n, by rw [val_dig]; exact h, Nat.le_trans h.len hk⟩
set_option maxRecDepth 20000 in
theorem takeB2 (xs : List Int) (h : Wd xs) (K : Nat) (hk : K ≤ 1048576) : Wd (xs.take K) ∧ Sm K (val (xs.take K)) ∧ (xs.take K).length ≤ 1048576 := ⟨h.take K, (Sm.val (h.take K)).mono (by rw [List.length_take]; omega), by rw [List.length_take]; omega⟩
set_option maxRecDepth 20000 in
theorem pow2_sm (n : Nat) : Sm (n / 32 + 1) (2 ^ n) := by
  unfold Sm
  rw [pow32]
  exact Nat.pow_lt_pow_right (by omega) (by omega)
end Go.Proofs.YtkjcnnjgaififaaDoor
