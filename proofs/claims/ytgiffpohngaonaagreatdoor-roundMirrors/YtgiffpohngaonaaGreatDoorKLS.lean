import Derived.Test.YtgiffpohngaonaaGreatDoorProg
import Derived.Test.YtgiffpohngaonaaGreatDoorKXA0
import Derived.Test.YtgiffpohngaonaaGreatDoorKXM
import Derived.Test.YtgiffpohngaonaaGreatDoorKXT
import Derived.Test.YtgiffpohngaonaaGreatDoorKXPR
import Derived.Test.YtgiffpohngaonaaGreatDoorKLB
import Derived.Test.YtgiffpohngaonaaGreatDoorKLN
import Derived.Test.YtgiffpohngaonaaGreatDoorKXSL
import Derived.Test.YtgiffpohngaonaaGreatDoorKXNS
import Derived.Test.YtgiffpohngaonaaGreatDoorKXQ
import Derived.Test.YtgiffpohngaonaaGreatDoorKTO
import Derived.Test.YtgiffpohngaonaaGreatDoorKXLB
import Derived.Test.YtgiffpohngaonaaGreatDoorKXTZ
import Derived.Test.YtgiffpohngaonaaGreatDoorKXBW
import Derived.Test.YtgiffpohngaonaaGreatDoorKXNM
import Derived.Test.YtgiffpohngaonaaGreatDoorKW4
import Derived.Test.YtgiffpohngaonaaGreatDoorKXRW
import Derived.Test.YtgiffpohngaonaaGreatDoorKXN
import Derived.Test.YtgiffpohngaonaaGreatDoorKXRO
import Derived.WalkKit
import Derived.ProofKit
import Derived.RowKit3
import Derived.WalkSpells
import Derived.StillTactics
import Derived.Deep.QuietTactic
import Derived.BigQuiet
import Derived.Below
import Derived.Deep.OwnRows
import Derived.OwnWalk
import Derived.Laws.Slices
namespace Go.Proofs.YtgiffpohngaonaaGreatDoor
open Go.RowKit

/-- a is a number of K words at most -/
def Sm (K a : Nat) : Prop := a < 4294967296 ^ K
theorem Sm.mono {K J a : Nat} (h : Sm K a) (hk : K ≤ J) : Sm J a := Nat.lt_of_lt_of_le h (Nat.pow_le_pow_right (by decide) hk)
theorem Sm.add {K a b : Nat} (h : Sm K a) (k : Sm K b) : Sm (K + 1) (a + b) := by
  unfold Sm at *
  rw [Nat.pow_succ]
  generalize 4294967296 ^ K = P at *
  omega
theorem Sm.mul {K J a b : Nat} (h : Sm K a) (k : Sm J b) : Sm (K + J) (a * b) := by
  unfold Sm at *
  rw [Nat.pow_add]
  by_cases e : b = 0
  · subst e
    rw [Nat.mul_zero]
    exact Nat.mul_pos (Nat.pow_pos (by decide)) (Nat.pow_pos (by decide))
  · exact Nat.mul_lt_mul_of_lt_of_le h (Nat.le_of_lt k) (by omega)
theorem Sm.pow {K a : Nat} (h : Sm K a) (n : Nat) (hn : 0 < n) : Sm (K * n) (a ^ n) := by
  unfold Sm at *
  rw [Nat.pow_mul]
  exact Nat.pow_lt_pow_left h (by omega)
theorem Sm.one {K : Nat} (h : 0 < K) : Sm K 1 := Nat.one_lt_pow (by omega) (by decide)
theorem Sm.len {K a : Nat} (h : Sm K a) : len32 a ≤ K := by
  by_cases c : len32 a ≤ K
  · exact c
  · exfalso
    have := len32_lt a K (by omega)
    unfold Sm at h
    omega
theorem Sm.val {xs : List Int} (h : Wd xs) : Sm xs.length (Go.Proofs.YtgiffpohngaonaaGreatDoor.val xs) := val_lt xs h
theorem addN_ok {K a b : Nat} (h : Sm K a) (k : Sm K b) (hk : K < 16384) : addN a b = (dig (a + b), 0) := by
  have h1 := h.len
  have h2 := k.len
  have h3 := (h.add k).len
  unfold addN
  rw [if_neg (by omega), if_neg (by omega)]
theorem mulN_ok {K J a b : Nat} (h : Sm K a) (k : Sm J b) (hk : K + J ≤ 16384) : mulN a b = (dig (a * b), 0) := by
  have h1 := h.len
  have h2 := k.len
  have h3 := (h.mul k).len
  unfold mulN
  rw [if_neg (by omega), if_neg (by omega)]
theorem subN_ok {K a b : Nat} (h : Sm K a) (hb : b ≤ a) (hk : K ≤ 16384) : subN a b = (dig (a - b), 0) := by
  have h1 := h.len
  unfold subN
  rw [if_neg (by omega), if_neg (by omega)]
theorem powN_ok {K a n : Nat} (h : Sm K a) (hK : 0 < K) (hk : K ≤ 16384) (hn : K * n ≤ 16384) : powN a (n : Int) = (dig (a ^ n), 0) := by
  have h1 := h.len
  have h2 : len32 (a ^ n) ≤ 16384 := by
    by_cases e : n = 0
    · subst e
      rw [Nat.pow_zero]
      exact Nat.le_trans ((Sm.one hK).len) hk
    · exact Nat.le_trans (h.pow n (by omega)).len hn
  unfold powN
  rw [if_neg (by omega), if_neg (by omega), Int.toNat_natCast, if_neg (by omega)]
/-- v is a list that reads L -/
def LsN (w : World) (v : Value) (L : List Int) : Prop := ∃ p c, v = .slice p L.length c ∧ Arr w p L ∧ L.length ≤ c
theorem LsN.kp {w w' : World} {v : Value} {L : List Int} (h : LsN w v L) (k : Kp w w') : LsN w' v L := by
  obtain ⟨p, c, e, hA, hc⟩ := h
  exact ⟨p, c, e, hA.grown k, hc⟩
theorem Own.lsN {w : World} {base : Nat} {v : Value} {L : List Int} (h : Own w base v L) : LsN w v L := by
  obtain ⟨p, c, e, hA, hc⟩ := h.arr
  exact ⟨p, c, e, hA, hc⟩
theorem addL (v1 v2 : Value) (L1 L2 : List Int) (w : World) (K : Nat) (h1 : LsN w v1 L1) (h2 : LsN w v2 L2) (w1 : Wd L1) (w2 : Wd L2) (s1 : Sm K (val L1)) (s2 : Sm K (val L2)) (hk : K < 16384) (l1 : L1.length ≤ 1048576) (l2 : L2.length ≤ 1048576) :
    Calls Tryz.prog 42 #[v1, v2] w fun e w' => ∃ v, e = .returned (.tuple #[v, .int .i64 0]) ∧ LsN w' v (dig (val L1 + val L2)) ∧ Kp w w' := by
  obtain ⟨p, c, rfl, hA, hc⟩ := h1
  obtain ⟨q, d, rfl, hB, hd⟩ := h2
  have h := nadd_ p q c d L1 L2 w hA hB w1 w2 (by omega) (by omega) hc hd
  rw [addN_ok s1 s2 hk] at h
  exact h.mono fun e w' ⟨v, a, b, k⟩ => ⟨v, a, b.lsN, k⟩
theorem mulL (v1 v2 : Value) (L1 L2 : List Int) (w : World) (K J : Nat) (h1 : LsN w v1 L1) (h2 : LsN w v2 L2) (w1 : Wd L1) (w2 : Wd L2) (s1 : Sm K (val L1)) (s2 : Sm J (val L2)) (hk : K + J ≤ 16384) (l1 : L1.length ≤ 1048576) (l2 : L2.length ≤ 1048576) :
    Calls Tryz.prog 47 #[v1, v2] w fun e w' => ∃ v, e = .returned (.tuple #[v, .int .i64 0]) ∧ LsN w' v (dig (val L1 * val L2)) ∧ Kp w w' := by
  obtain ⟨p, c, rfl, hA, hc⟩ := h1
  obtain ⟨q, d, rfl, hB, hd⟩ := h2
  have h := nmul_ p q c d L1 L2 w hA hB w1 w2 (by omega) (by omega) hc hd
  rw [mulN_ok s1 s2 hk] at h
  exact h.mono fun e w' ⟨v, a, b, k⟩ => ⟨v, a, b.lsN, k⟩
theorem subL (v1 v2 : Value) (L1 L2 : List Int) (w : World) (K : Nat) (h1 : LsN w v1 L1) (h2 : LsN w v2 L2) (w1 : Wd L1) (w2 : Wd L2) (s1 : Sm K (val L1)) (hle : val L2 ≤ val L1) (hk : K ≤ 16384) (l1 : L1.length ≤ 1048576) (l2 : L2.length ≤ 1048576) :
    Calls Tryz.prog 44 #[v1, v2] w fun e w' => ∃ v, e = .returned (.tuple #[v, .int .i64 0]) ∧ LsN w' v (dig (val L1 - val L2)) ∧ Kp w w' := by
  obtain ⟨p, c, rfl, hA, hc⟩ := h1
  obtain ⟨q, d, rfl, hB, hd⟩ := h2
  have h := nsub_ p q c d L1 L2 w hA hB w1 w2 (by omega) (by omega) hc hd
  rw [subN_ok s1 hle hk] at h
  exact h.mono fun e w' ⟨v, a, b, k⟩ => ⟨v, a, b.lsN, k⟩
set_option maxRecDepth 20000 in
theorem sl32s (g h n : Nat) (hh : h ≤ n) (w : World) : (Instr.slice 37 (.slice (some ⟨g, 0, none⟩) n n) none (some (.int .i64 (h : Int))) none).run Tryz.prog w = .ok (.slice (some ⟨g, 0, none⟩) h n) w := by
  rw [run_slice_h w 37 (some ⟨g, 0, none⟩) n n Tryz.underlying37 .i64 (h : Int) (by omega) (by omega)]
  have e : (sizeOf (Tryz.prog.elem 37)).run Tryz.prog w = .ok 1 w := by kernel_rfl
  rw [e]
  simp [Result.andThen, sliced, Addr.add_lit]
end Go.Proofs.YtgiffpohngaonaaGreatDoor
