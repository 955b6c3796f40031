import Derived.Test.YtjblehmafjcncaaDoorProg
import Derived.Test.YtjblehmafjcncaaDoorKXA0
import Derived.Test.YtjblehmafjcncaaDoorKXM
import Derived.Test.YtjblehmafjcncaaDoorKXT
import Derived.Test.YtjblehmafjcncaaDoorKAT
import Derived.Test.YtjblehmafjcncaaDoorKLB
import Derived.Test.YtjblehmafjcncaaDoorKLN
import Derived.Test.YtjblehmafjcncaaDoorKPR
import Derived.Test.YtjblehmafjcncaaDoorKXSL
import Derived.Test.YtjblehmafjcncaaDoorKNF
import Derived.Test.YtjblehmafjcncaaDoorKXQ
import Derived.Test.YtjblehmafjcncaaDoorKTO
import Derived.Test.YtjblehmafjcncaaDoorKHB
import Derived.Test.YtjblehmafjcncaaDoorKXTZ
import Derived.Test.YtjblehmafjcncaaDoorKBW
import Derived.Test.YtjblehmafjcncaaDoorKNSm
import Derived.Test.YtjblehmafjcncaaDoorKW4
import Derived.Test.YtjblehmafjcncaaDoorKRW
import Derived.Test.YtjblehmafjcncaaDoorKXN
import Derived.Test.YtjblehmafjcncaaDoorKNS
import Derived.Test.YtjblehmafjcncaaDoorKXNM
import Derived.Test.YtjblehmafjcncaaDoorKXS
import Derived.Test.YtjblehmafjcncaaDoorKXRO2
import Derived.WalkKit
import Derived.ProofKit
import Derived.RowKit3
import Derived.WalkSpells
import Derived.StillTactics
import Derived.Deep.QuietTactic
import Derived.BigQuiet
import Derived.Below
import Derived.Deep.OwnRows
import Derived.OwnWalk
import Derived.Laws.Slices
namespace Go.Proofs.YtjblehmafjcncaaDoor
open Go.RowKit

/-- a is a number of K words at most -/
def Sm (K a : Nat) : Prop := a < 4294967296 ^ K
theorem Sm.mono {K J a : Nat} (h : Sm K a) (hk : K ≤ J) : Sm J a := Nat.lt_of_lt_of_le h (Nat.pow_le_pow_right (by decide) hk)
theorem Sm.add {K a b : Nat} (h : Sm K a) (k : Sm K b) : Sm (K + 1) (a + b) := by
  unfold Sm at *
  rw [Nat.pow_succ]
  generalize 4294967296 ^ K = P at *
  omega
theorem Sm.mul {K J a b : Nat} (h : Sm K a) (k : Sm J b) : Sm (K + J) (a * b) := by
  unfold Sm at *
  rw [Nat.pow_add]
  by_cases e : b = 0
  · subst e
    rw [Nat.mul_zero]
    exact Nat.mul_pos (Nat.pow_pos (by decide)) (Nat.pow_pos (by decide))
  · exact Nat.mul_lt_mul_of_lt_of_le h (Nat.le_of_lt k) (by omega)
theorem Sm.pow {K a : Nat} (h : Sm K a) (n : Nat) (hn : 0 < n) : Sm (K * n) (a ^ n) := by
  unfold Sm at *
  rw [Nat.pow_mul]
  exact Nat.pow_lt_pow_left h (by omega)
theorem Sm.one {K : Nat} (h : 0 < K) : Sm K 1 := Nat.one_lt_pow (by omega) (by decide)
theorem Sm.len {K a : Nat} (h : Sm K a) : len32 a ≤ K := by
  by_cases c : len32 a ≤ K
  · exact c
  · exfalso
    have := len32_lt a K (by omega)
    unfold Sm at h
    omega
theorem Sm.val {xs : List Int} (h : Wd xs) : Sm xs.length (Go.Proofs.YtjblehmafjcncaaDoor.val xs) := val_lt xs h
theorem addN_ok {K a b : Nat} (h : Sm K a) (k : Sm K b) (hk : K < 16384) : addN a b = (dig (a + b), 0) := by
  have h1 := h.len
  have h2 := k.len
  have h3 := (h.add k).len
  unfold addN
  rw [if_neg (by omega), if_neg (by omega)]
theorem mulN_ok {K J a b : Nat} (h : Sm K a) (k : Sm J b) (hk : K + J ≤ 16384) : mulN a b = (dig (a * b), 0) := by
  have h1 := h.len
  have h2 := k.len
  have h3 := (h.mul k).len
  unfold mulN
  rw [if_neg (by omega), if_neg (by omega)]
theorem subN_ok {K a b : Nat} (h : Sm K a) (hb : b ≤ a) (hk : K ≤ 16384) : subN a b = (dig (a - b), 0) := by
  have h1 := h.len
  unfold subN
  rw [if_neg (by omega), if_neg (by omega)]
theorem powN_ok {K a n : Nat} (h : Sm K a) (hK : 0 < K) (hk : K ≤ 16384) (hn : K * n ≤ 16384) : powN a (n : Int) = (dig (a ^ n), 0) := by
  have h1 := h.len
  have h2 : len32 (a ^ n) ≤ 16384 := by
    by_cases e : n = 0
    · subst e
      rw [Nat.pow_zero]
      exact Nat.le_trans ((Sm.one hK).len) hk
    · exact Nat.le_trans (h.pow n (by omega)).len hn
  unfold powN
  rw [if_neg (by omega), if_neg (by omega), Int.toNat_natCast, if_neg (by omega)]
/-- v is a list that reads L -/
def Ls (w : World) (v : Value) (L : List Int) : Prop := ∃ p c, v = .slice p L.length c ∧ Arr w p L ∧ L.length ≤ c
theorem Ls.kp {w w' : World} {v : Value} {L : List Int} (h : Ls w v L) (k : Kp w w') : Ls w' v L := by
  obtain ⟨p, c, e, hA, hc⟩ := h
  exact ⟨p, c, e, hA.grown k, hc⟩
theorem Own.ls {w : World} {base : Nat} {v : Value} {L : List Int} (h : Own w base v L) : Ls w v L := by
  obtain ⟨p, c, e, hA, hc⟩ := h.arr
  exact ⟨p, c, e, hA, hc⟩
theorem addL (v1 v2 : Value) (L1 L2 : List Int) (w : World) (K : Nat) (h1 : Ls w v1 L1) (h2 : Ls w v2 L2) (w1 : Wd L1) (w2 : Wd L2) (s1 : Sm K (val L1)) (s2 : Sm K (val L2)) (hk : K < 16384) (l1 : L1.length ≤ 1048576) (l2 : L2.length ≤ 1048576) :
    Calls Tryd.prog 45 #[v1, v2] w fun e w' => ∃ v, e = .returned (.tuple #[v, .int .i64 0]) ∧ Ls w' v (dig (val L1 + val L2)) ∧ Kp w w' := by
  obtain ⟨p, c, rfl, hA, hc⟩ := h1
  obtain ⟨q, d, rfl, hB, hd⟩ := h2
  have h := nadd_ p q c d L1 L2 w hA hB w1 w2 (by omega) (by omega) hc hd
  rw [addN_ok s1 s2 hk] at h
  exact h.mono fun e w' ⟨v, a, b, k⟩ => ⟨v, a, b.ls, k⟩
theorem mulL (v1 v2 : Value) (L1 L2 : List Int) (w : World) (K J : Nat) (h1 : Ls w v1 L1) (h2 : Ls w v2 L2) (w1 : Wd L1) (w2 : Wd L2) (s1 : Sm K (val L1)) (s2 : Sm J (val L2)) (hk : K + J ≤ 16384) (l1 : L1.length ≤ 1048576) (l2 : L2.length ≤ 1048576) :
    Calls Tryd.prog 33 #[v1, v2] w fun e w' => ∃ v, e = .returned (.tuple #[v, .int .i64 0]) ∧ Ls w' v (dig (val L1 * val L2)) ∧ Kp w w' := by
  obtain ⟨p, c, rfl, hA, hc⟩ := h1
  obtain ⟨q, d, rfl, hB, hd⟩ := h2
  have h := nmul_ p q c d L1 L2 w hA hB w1 w2 (by omega) (by omega) hc hd
  rw [mulN_ok s1 s2 hk] at h
  exact h.mono fun e w' ⟨v, a, b, k⟩ => ⟨v, a, b.ls, k⟩
theorem subL (v1 v2 : Value) (L1 L2 : List Int) (w : World) (K : Nat) (h1 : Ls w v1 L1) (h2 : Ls w v2 L2) (w1 : Wd L1) (w2 : Wd L2) (s1 : Sm K (val L1)) (hle : val L2 ≤ val L1) (hk : K ≤ 16384) (l1 : L1.length ≤ 1048576) (l2 : L2.length ≤ 1048576) :
    Calls Tryd.prog 46 #[v1, v2] w fun e w' => ∃ v, e = .returned (.tuple #[v, .int .i64 0]) ∧ Ls w' v (dig (val L1 - val L2)) ∧ Kp w w' := by
  obtain ⟨p, c, rfl, hA, hc⟩ := h1
  obtain ⟨q, d, rfl, hB, hd⟩ := h2
  have h := nsub_ p q c d L1 L2 w hA hB w1 w2 (by omega) (by omega) hc hd
  rw [subN_ok s1 hle hk] at h
  exact h.mono fun e w' ⟨v, a, b, k⟩ => ⟨v, a, b.ls, k⟩
theorem powL (v1 : Value) (L1 : List Int) (w : World) (K n : Nat) (h1 : Ls w v1 L1) (w1 : Wd L1) (s1 : Sm K (val L1)) (hK : 0 < K) (hk : K ≤ 16384) (hn : K * n ≤ 16384) (l1 : L1.length ≤ 1048576) :
    Calls Tryd.prog 47 #[v1, .int .i64 (n : Int)] w fun e w' => ∃ v, e = .returned (.tuple #[v, .int .i64 0]) ∧ Ls w' v (dig (val L1 ^ n)) ∧ Kp w w' := by
  obtain ⟨p, c, rfl, hA, hc⟩ := h1
  have h := npow_ p c L1 w (n : Int) hA w1 (by omega) hc
  rw [powN_ok s1 hK hk hn] at h
  exact h.mono fun e w' ⟨v, a, b, k⟩ => ⟨v, a, b.ls, k⟩
theorem normL (v1 : Value) (L1 : List Int) (w : World) (h1 : Ls w v1 L1) (w1 : Wd L1) (l1 : L1.length ≤ 1048576) :
    Calls Tryd.prog 12 #[v1] w fun e w' => ∃ v, e = .returned v ∧ Ls w' v (dig (val L1)) ∧ Kp w w' := by
  obtain ⟨p, c, rfl, hA, hc⟩ := h1
  have h := nnorm_ p c L1 w hA w1 (by omega) hc
  exact h.mono fun e w' ⟨v, a, b, k⟩ => ⟨v, a, b.ls, k⟩
theorem sameL (v1 v2 : Value) (L1 L2 : List Int) (w : World) (h1 : Ls w v1 L1) (h2 : Ls w v2 L2) (he : L1 = L2) (l1 : L1.length ≤ 1048576) :
    Calls Tryd.prog 10 #[v1, v2] w fun e w' => e = .returned (.bool true) ∧ Kp w w' := by
  obtain ⟨p, c, rfl, hA, hc⟩ := h1
  obtain ⟨q, d, rfl, hB, hd⟩ := h2
  have h := same_ p q c d L1 L2 w hA hB (by omega)
  rw [decide_eq_true he] at h
  exact h
set_option maxRecDepth 20000 in
theorem sl32s (g h n : Nat) (hh : h ≤ n) (w : World) : (Instr.slice 24 (.slice (some ⟨g, 0, none⟩) n n) none (some (.int .i64 (h : Int))) none).run Tryd.prog w = .ok (.slice (some ⟨g, 0, none⟩) h n) w := by
  rw [run_slice_h w 24 (some ⟨g, 0, none⟩) n n Tryd.underlying24 .i64 (h : Int) (by omega) (by omega)]
  have e : (sizeOf (Tryd.prog.elem 24)).run Tryd.prog w = .ok 1 w := by kernel_rfl
  rw [e]
  simp [Result.andThen, sliced, Addr.add_lit]
set_option maxRecDepth 20000 in
set_option maxHeartbeats 1000000 in
theorem short_ (p : Option Addr) (c m : Nat) (xs : List Int) (w : World) (hx : Arr w p xs) (lx : xs.length ≤ 1048576) :
    Calls Tryd.prog 4 #[.slice p xs.length c, .int .i64 (m : Int)] w fun e w' => ∃ v, e = .returned v ∧ Ls w' v (xs.take m) ∧ Kp w w' := by
  have hco := copied_ p c xs w hx (by omega)
  obtain ⟨N, hN⟩ : ∃ N, N = xs.length := ⟨_, rfl⟩
  have HN : Hid (N = xs.length) := hN
  rw [← hN] at hco lx ⊢
  clear hx hN
  by_cases cn : m < N
  · have t1 : (m : Int) < (N : Int) := by omega
    have hsl := fun g => sl32s g m N (by omega)
    have HM : Hid (m < N) := cn
    clear cn
    go_enter Tryd.func4, Tryd.ntmps4
    go_wp2_with fail
    refine hco.mono ?_
    rintro e w1 ⟨g, rfl, hg, hR, hk⟩
    have hs := hsl g
    have HZ : Hid (Ls w1 (.slice (some ⟨g, 0, none⟩) m N) (xs.take m) ∧ Kp w w1) := ⟨⟨some ⟨g, 0, none⟩, N, by rw [List.length_take, ← HN.out, Nat.min_eq_left (Nat.le_of_lt HM.out)], hR.arr m (by have := HM.out; omega) (by have := HM.out; have := HN.out; omega), by rw [List.length_take]; have := HM.out; omega⟩, hk⟩
    clear hco hsl hg hR hk
    go_wp2
    exact bodyPost_ret (v := .slice (some ⟨g, 0, none⟩) m N) (by simp [results, Tryd.results4, go_sem]) rfl ⟨_, rfl, HZ.out.1, HZ.out.2⟩
  · have t1 : ¬ (m : Int) < (N : Int) := by omega
    have HM : Hid (¬ m < N) := cn
    clear cn
    go_enter Tryd.func4, Tryd.ntmps4
    go_wp2_with fail
    refine hco.mono ?_
    rintro e w1 ⟨g, rfl, hg, hR, hk⟩
    have HZ : Hid (Ls w1 (.slice (some ⟨g, 0, none⟩) N N) (xs.take m) ∧ Kp w w1) := ⟨⟨some ⟨g, 0, none⟩, N, by rw [List.take_of_length_le (by have := HM.out; have := HN.out; omega), ← HN.out], by rw [List.take_of_length_le (by have := HM.out; have := HN.out; omega)]; exact hR.all HN.out.symm, by rw [List.length_take]; have := HN.out; omega⟩, hk⟩
    clear hco hg hR hk
    go_wp2
    exact bodyPost_ret (v := .slice (some ⟨g, 0, none⟩) N N) (by simp [results, Tryd.results4, go_sem]) rfl ⟨_, rfl, HZ.out.1, HZ.out.2⟩
end Go.Proofs.YtjblehmafjcncaaDoor
