import Derived.Test.YtgiffpohngaonaaGreatDoorProg
import Derived.Test.YtgiffpohngaonaaGreatDoorKXA0
import Derived.Test.YtgiffpohngaonaaGreatDoorKXM
import Derived.Test.YtgiffpohngaonaaGreatDoorKXT
import Derived.Test.YtgiffpohngaonaaGreatDoorKXPR
import Derived.Test.YtgiffpohngaonaaGreatDoorKLB
import Derived.Test.YtgiffpohngaonaaGreatDoorKLN
import Derived.Test.YtgiffpohngaonaaGreatDoorKXSL
import Derived.Test.YtgiffpohngaonaaGreatDoorKXNS
import Derived.Test.YtgiffpohngaonaaGreatDoorKXQ
import Derived.Test.YtgiffpohngaonaaGreatDoorKTO
import Derived.Test.YtgiffpohngaonaaGreatDoorKXLB
import Derived.Test.YtgiffpohngaonaaGreatDoorKXTZ
import Derived.Test.YtgiffpohngaonaaGreatDoorKXBW
import Derived.Test.YtgiffpohngaonaaGreatDoorKXNM
import Derived.Test.YtgiffpohngaonaaGreatDoorKW4
import Derived.Test.YtgiffpohngaonaaGreatDoorKXRW
import Derived.Test.YtgiffpohngaonaaGreatDoorKXN
import Derived.Test.YtgiffpohngaonaaGreatDoorKXRO
import Derived.Test.YtgiffpohngaonaaGreatDoorKLS
import Derived.Test.YtgiffpohngaonaaGreatDoorKXCO
import Derived.WalkKit
import Derived.ProofKit
import Derived.RowKit3
import Derived.WalkSpells
import Derived.StillTactics
import Derived.Deep.QuietTactic
import Derived.BigQuiet
import Derived.Below
import Derived.Deep.OwnRows
import Derived.OwnWalk
namespace Go.Proofs.YtgiffpohngaonaaGreatDoor
open Go.RowKit
set_option maxRecDepth 20000 in
theorem LsN.len {w : World} {v : Value} {L : List Int} (h : LsN w v L) : ∃ p c, v = .slice p L.length c ∧ Arr w p L ∧ L.length ≤ c := h
set_option maxRecDepth 20000 in
theorem raisedB (v : Value) (a m : Nat) (w : World) (h : LsN w v (dig a)) (l : (dig a).length ≤ 1048576) (hm : m ≤ 16777216) :
    Calls Tryz.prog 69 #[v, .int .i64 (m : Int)] w fun e w' => ∃ v', e = .returned v' ∧ Own w' w.heap.size v' (dig (a * 2 ^ m)) ∧ Kp w w' := by
  obtain ⟨p, c, rfl, hA, hc⟩ := h
  by_cases e0 : (dig a).length = 0
  · have ha := (dig_len_zero a).1 e0
    have h := raised0_ p c (m : Int) w
    rw [e0, ha, Nat.zero_mul, dig_zero]
    exact h
  have h := raised_ p c m (dig a) w hA (Wd_dig a) (by omega) l hm
  rw [val_dig] at h
  exact h
set_option maxRecDepth 20000 in
theorem loweredB (v : Value) (a m : Nat) (w : World) (h : LsN w v (dig a)) (l : (dig a).length ≤ 1048576) (hm9 : (m : Int) < 9223372036854775808) :
    Calls Tryz.prog 104 #[v, .int .i64 (m : Int)] w fun e w' => ∃ v', e = .returned v' ∧ Own w' w.heap.size v' (dig (a / 2 ^ m)) ∧ Kp w w' := by
  obtain ⟨p, c, rfl, hA, hc⟩ := h
  have h := lowered_ p c m (dig a) w hA (Wd_dig a) l hc hm9
  rw [val_dig] at h
  exact h
set_option maxRecDepth 20000 in
theorem remB (v : Value) (a m : Nat) (w : World) (h : LsN w v (dig a)) (l : (dig a).length ≤ 1048576) (ho : m / 32 < (dig a).length) :
    Calls Tryz.prog 106 #[v, .int .i64 (m : Int)] w fun e w' => ∃ v', e = .returned v' ∧ Own w' w.heap.size v' (dig (a % 2 ^ m)) ∧ Kp w w' := by
  obtain ⟨p, c, rfl, hA, hc⟩ := h
  have h := remnant_ p c m (dig a) w hA (Wd_dig a) l hc ho
  rw [val_dig] at h
  exact h
set_option maxRecDepth 20000 in
theorem sumB (v1 v2 : Value) (a b : Nat) (w : World) (h1 : LsN w v1 (dig a)) (h2 : LsN w v2 (dig b)) (l1 : (dig a).length ≤ 1048576) (l2 : (dig b).length ≤ 1048576) :
    Calls Tryz.prog 71 #[v1, v2] w fun e w' => ∃ v', e = .returned v' ∧ Own w' w.heap.size v' (dig (a + b)) ∧ Kp w w' := by
  obtain ⟨p, c, rfl, hA, hc⟩ := h1
  obtain ⟨q, d, rfl, hB, hd⟩ := h2
  have h := sum_any p q c d (dig a) (dig b) w hA hB (Wd_dig a) (Wd_dig b) (by omega) (by omega)
  rw [val_dig, val_dig] at h
  exact h
set_option maxRecDepth 20000 in
theorem prodB (v1 v2 : Value) (a b : Nat) (w : World) (h1 : LsN w v1 (dig a)) (h2 : LsN w v2 (dig b)) (l1 : (dig a).length ≤ 1048576) (l2 : (dig b).length ≤ 1048576) :
    Calls Tryz.prog 78 #[v1, v2] w fun e w' => ∃ v', e = .returned v' ∧ Own w' w.heap.size v' (dig (a * b)) ∧ Kp w w' := by
  obtain ⟨p, c, rfl, hA, hc⟩ := h1
  obtain ⟨q, d, rfl, hB, hd⟩ := h2
  have h := product_ p q c d (dig a) (dig b) w hA hB (Wd_dig a) (Wd_dig b) (by omega) (by omega)
  rw [val_dig, val_dig] at h
  exact h
set_option maxRecDepth 20000 in
theorem diffB (v1 v2 : Value) (a b : Nat) (w : World) (h1 : LsN w v1 (dig a)) (h2 : LsN w v2 (dig b)) (l1 : (dig a).length ≤ 1048576) (_l2 : (dig b).length ≤ 1048576) (hle : b ≤ a) :
    Calls Tryz.prog 74 #[v1, v2] w fun e w' => ∃ v', e = .returned v' ∧ Own w' w.heap.size v' (dig (a - b)) ∧ Kp w w' := by
  obtain ⟨p, c, rfl, hA, hc⟩ := h1
  obtain ⟨q, d, rfl, hB, hd⟩ := h2
  have h := diff_ p q c d (dig a) (dig b) w hA hB (Wd_dig a) (Wd_dig b) (by omega) (len32_mono hle) (by rw [val_dig, val_dig]; exact hle)
  rw [val_dig, val_dig] at h
  exact h
set_option maxRecDepth 20000 in
theorem cmpB (v1 v2 : Value) (a b : Nat) (w : World) (h1 : LsN w v1 (dig a)) (h2 : LsN w v2 (dig b)) (l1 : (dig a).length ≤ 1048576) (l2 : (dig b).length ≤ 1048576) :
    Calls Tryz.prog 43 #[v1, v2] w fun e w' => e = .returned (.int .i64 (cmpN a b)) ∧ Kp w w' := by
  obtain ⟨p, c, rfl, hA, hc⟩ := h1
  obtain ⟨q, d, rfl, hB, hd⟩ := h2
  have h := ncmp_ p q c d (dig a) (dig b) w hA hB (Wd_dig a) (Wd_dig b) (by omega) (by omega) hc hd
  rw [val_dig, val_dig] at h
  exact h
set_option maxRecDepth 20000 in
theorem quoB (v1 v2 : Value) (a b : Nat) (w : World) (h1 : LsN w v1 (dig a)) (h2 : LsN w v2 (dig b)) (l1 : (dig a).length ≤ 1048576) (l2 : (dig b).length ≤ 1048576) (h0 : 0 < b) :
    Calls Tryz.prog 105 #[v1, v2] w fun e w' => ∃ q r, e = .returned (.tuple #[q, r]) ∧ LsN w' q (dig (a / b)) ∧ LsN w' r (dig (a % b)) ∧ Kp w w' := by
  obtain ⟨p, c, rfl, hA, hc⟩ := h1
  obtain ⟨q, d, rfl, hB, hd⟩ := h2
  have h := quotient_ p q c d (dig a) (dig b) w hA hB (by rw [val_dig]) (by rw [val_dig]) l1 l2 hc hd (by rw [val_dig]; exact h0)
  rw [val_dig, val_dig] at h
  exact h.mono fun e w' ⟨v, he, ⟨p1, c1, p2, c2, e2, o1, o2, _⟩, hk⟩ => ⟨_, _, by rw [he, e2], o1.lsN, o2.lsN, hk⟩
end Go.Proofs.YtgiffpohngaonaaGreatDoor
