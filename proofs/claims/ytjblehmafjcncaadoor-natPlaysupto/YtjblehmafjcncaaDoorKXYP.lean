import Derived.Test.YtjblehmafjcncaaDoorKXA0
import Derived.Test.YtjblehmafjcncaaDoorKXM
import Derived.Test.YtjblehmafjcncaaDoorKXT
import Derived.Test.YtjblehmafjcncaaDoorKAT
import Derived.Test.YtjblehmafjcncaaDoorKLB
import Derived.Test.YtjblehmafjcncaaDoorKLN
import Derived.Test.YtjblehmafjcncaaDoorKPR
import Derived.Test.YtjblehmafjcncaaDoorKXSL
import Derived.Test.YtjblehmafjcncaaDoorKNF
import Derived.Test.YtjblehmafjcncaaDoorKXQ
import Derived.Test.YtjblehmafjcncaaDoorKTO
import Derived.Test.YtjblehmafjcncaaDoorKHB
import Derived.Test.YtjblehmafjcncaaDoorKXTZ
import Derived.Test.YtjblehmafjcncaaDoorKXA
import Derived.Test.YtjblehmafjcncaaDoorKBW
import Derived.Test.YtjblehmafjcncaaDoorKXNQ
import Derived.Test.YtjblehmafjcncaaDoorKXQQ
import Derived.Test.YtjblehmafjcncaaDoorKHB2
import Derived.Test.YtjblehmafjcncaaDoorKXRL
import Derived.Test.YtjblehmafjcncaaDoorKNSm
import Derived.Test.YtjblehmafjcncaaDoorKW4
import Derived.Test.YtjblehmafjcncaaDoorKRW
import Derived.Test.YtjblehmafjcncaaDoorKXN
import Derived.Test.YtjblehmafjcncaaDoorKNS
import Derived.Test.YtjblehmafjcncaaDoorKXNM
import Derived.Test.YtjblehmafjcncaaDoorKXS
import Derived.Test.YtjblehmafjcncaaDoorKXRO2
import Derived.Test.YtjblehmafjcncaaDoorKLS
import Derived.Test.YtjblehmafjcncaaDoorKXRP
import Derived.Test.YtjblehmafjcncaaDoorKXRM
import Derived.Test.YtjblehmafjcncaaDoorKRC
import Derived.Test.YtjblehmafjcncaaDoorKXR
import Derived.Test.YtjblehmafjcncaaDoorKXNB
import Derived.Test.YtjblehmafjcncaaDoorKNC
import Derived.Test.YtjblehmafjcncaaDoorKYAK
import Derived.Test.YtjblehmafjcncaaDoorKXRMU
import Derived.WalkKit
import Derived.ProofKit
import Derived.RowKit3
import Derived.WalkSpells
import Derived.StillTactics
import Derived.Deep.QuietTactic
import Derived.BigQuiet
import Derived.Below
import Derived.Deep.OwnRows
import Derived.OwnWalk
namespace Go.Proofs.YtjblehmafjcncaaDoor
open Go.RowKit

def F9 (xs ys : List Int) : Rs := ⟨(quoN (val xs) (val ys)).1, (quoN (val xs) (val ys)).2.1, 0, 0, false, (quoN (val xs) (val ys)).2.2⟩
theorem quoN_len (a b : Nat) : (quoN a b).1.length ≤ 16384 ∧ (quoN a b).2.1.length ≤ 16384 := by
  unfold quoN
  split
  · simp
  · split
    · simp
    · next h1 h2 =>
      have e1 : (dig (a / b)).length = len32 (a / b) := rfl
      have e2 : (dig (a % b)).length = len32 (a % b) := rfl
      have e3 := len32_mono (Nat.div_le_self a b)
      have e4 := len32_mono (Nat.mod_le a b)
      exact ⟨by show (dig (a / b)).length ≤ 16384; omega, by show (dig (a % b)).length ≤ 16384; omega⟩
set_option maxRecDepth 20000 in
set_option maxHeartbeats 1000000 in
theorem asks_quo (x n : Int) : Asks 7 9 x n F9 := by
  intro p q c d xs ys w hx hy hwx hwy lx ly hc hd
  obtain ⟨w0, hw0⟩ : ∃ w0, w0 = w.alloc (.cells #[.slice none 0 0, .slice none 0 0, .int .u64 0, .int .i64 0, .bool false, .int .i64 0] 32) := ⟨_, rfl⟩
  have hk00 : Kp w w0 := by rw [hw0]; exact (Kp.refl w).alloc _
  have h := nquo_ p q c d xs ys w0 (hx.grown hk00) (hy.grown hk00) hwx hwy lx ly hc hd
  obtain ⟨R, hR⟩ : ∃ R : Rs, R = F9 xs ys := ⟨_, rfl⟩
  rw [← hR]
  obtain ⟨l1, l2, Wv, Zv, Bv, Ev⟩ := R
  have r1 : l1 = _ := congrArg Rs.l1 hR
  have r2 : l2 = _ := congrArg Rs.l2 hR
  have r3 : Wv = _ := congrArg Rs.W hR
  have r4 : Zv = _ := congrArg Rs.Z hR
  have r5 : Bv = _ := congrArg Rs.B hR
  have r6 : Ev = _ := congrArg Rs.E hR
  simp only [F9] at r1 r2 r3 r4 r5 r6
  clear hR
  rw [← r1, ← r2, ← r6] at h
  subst r3
  subst r4
  subst r5
  obtain ⟨N, hN⟩ : ∃ N, N = xs.length := ⟨_, rfl⟩
  obtain ⟨M, hM⟩ : ∃ M, M = ys.length := ⟨_, rfl⟩
  rw [← hN, ← hM] at h
  rw [← hN, ← hM]
  rw [hw0] at h
  have hcd := code_ Ev
  clear hx hy hwx hwy lx ly hN hM hw0 hk00 hc hd r1 r2 r6
  go_enter Tryd.func7, Tryd.ntmps7
  go_wp2_with fail
  refine h.mono ?_; rintro e w1 ⟨⟨p1, cc, p2, cc2, rfl, hO, hO2, hne⟩, hk⟩
  obtain ⟨D, hD⟩ : ∃ D, D = l1.length := ⟨_, rfl⟩
  obtain ⟨D2, hD2⟩ : ∃ D2, D2 = l2.length := ⟨_, rfl⟩
  have HD : Hid (D = l1.length ∧ D2 = l2.length ∧ ∀ g, p1 = some ⟨g, 0, none⟩ → p2 ≠ some ⟨g, 0, none⟩) := ⟨hD, hD2, hne⟩
  rw [← hD] at hO ⊢
  rw [← hD2] at hO2 ⊢
  clear h hD hD2 hne
  have k0 := kkeep hk (b := w.heap.size) (o := 0) (v := .slice none 0 0) (by simp [go_sem])
  have z0 : w1.frozen? ⟨w.heap.size, 0, none⟩ = false := by rw [Below.frozen hk (by simp)]; simp [go_sem]
  have k1 := kkeep hk (b := w.heap.size) (o := 1) (v := .slice none 0 0) (by simp [go_sem])
  have z1 : w1.frozen? ⟨w.heap.size, 1, none⟩ = false := by rw [Below.frozen hk (by simp)]; simp [go_sem]
  have k2 := kkeep hk (b := w.heap.size) (o := 2) (v := .int .u64 0) (by simp [go_sem])
  have z2 : w1.frozen? ⟨w.heap.size, 2, none⟩ = false := by rw [Below.frozen hk (by simp)]; simp [go_sem]
  have k3 := kkeep hk (b := w.heap.size) (o := 3) (v := .int .i64 0) (by simp [go_sem])
  have z3 : w1.frozen? ⟨w.heap.size, 3, none⟩ = false := by rw [Below.frozen hk (by simp)]; simp [go_sem]
  have k4 := kkeep hk (b := w.heap.size) (o := 4) (v := .bool false) (by simp [go_sem])
  have z4 : w1.frozen? ⟨w.heap.size, 4, none⟩ = false := by rw [Below.frozen hk (by simp)]; simp [go_sem]
  have k5 := kkeep hk (b := w.heap.size) (o := 5) (v := .int .i64 0) (by simp [go_sem])
  have z5 : w1.frozen? ⟨w.heap.size, 5, none⟩ = false := by rw [Below.frozen hk (by simp)]; simp [go_sem]
  have hk0 : Kp w w1 := ((Kp.refl w).alloc _).trans hk
  have hO' : Own ((((((w1.setCell ⟨w.heap.size, 0, none⟩ (.slice p1 D cc)).setCell ⟨w.heap.size, 1, none⟩ (.slice p2 D2 cc2)).setCell ⟨w.heap.size, 2, none⟩ (.int .u64 0)).setCell ⟨w.heap.size, 3, none⟩ (.int .i64 0)).setCell ⟨w.heap.size, 4, none⟩ (.bool false)).setCell ⟨w.heap.size, 5, none⟩ (.int .i64 Ev)) w.heap.size (.slice p1 D cc) l1 := Own.mono ((((((hO.setOther (by simp) (.slice p1 D cc)).setOther (by simp) (.slice p2 D2 cc2)).setOther (by simp) (.int .u64 0)).setOther (by simp) (.int .i64 0)).setOther (by simp) (.bool false)).setOther (by simp) (.int .i64 Ev)) (by simp)
  have hO2' : Own ((((((w1.setCell ⟨w.heap.size, 0, none⟩ (.slice p1 D cc)).setCell ⟨w.heap.size, 1, none⟩ (.slice p2 D2 cc2)).setCell ⟨w.heap.size, 2, none⟩ (.int .u64 0)).setCell ⟨w.heap.size, 3, none⟩ (.int .i64 0)).setCell ⟨w.heap.size, 4, none⟩ (.bool false)).setCell ⟨w.heap.size, 5, none⟩ (.int .i64 Ev)) w.heap.size (.slice p2 D2 cc2) l2 := Own.mono ((((((hO2.setOther (by simp) (.slice p1 D cc)).setOther (by simp) (.slice p2 D2 cc2)).setOther (by simp) (.int .u64 0)).setOther (by simp) (.int .i64 0)).setOther (by simp) (.bool false)).setOther (by simp) (.int .i64 Ev)) (by simp)
  have hK' : Kp w ((((((w1.setCell ⟨w.heap.size, 0, none⟩ (.slice p1 D cc)).setCell ⟨w.heap.size, 1, none⟩ (.slice p2 D2 cc2)).setCell ⟨w.heap.size, 2, none⟩ (.int .u64 0)).setCell ⟨w.heap.size, 3, none⟩ (.int .i64 0)).setCell ⟨w.heap.size, 4, none⟩ (.bool false)).setCell ⟨w.heap.size, 5, none⟩ (.int .i64 Ev)) := ((((((hk0.setCell (Nat.le_refl _) (.slice p1 D cc)).setCell (Nat.le_refl _) (.slice p2 D2 cc2)).setCell (Nat.le_refl _) (.int .u64 0)).setCell (Nat.le_refl _) (.int .i64 0)).setCell (Nat.le_refl _) (.bool false)).setCell (Nat.le_refl _) (.int .i64 Ev))
  clear hO hO2 hk hk0
  go_wp2_with (first | (go_at_call 19; refine (hcd _).mono ?_; rintro e w' ⟨rfl, rfl⟩))
  exact bodyPost_ret (v := .agg #[.slice p1 D cc, .slice p2 D2 cc2, .int .u64 0, .int .i64 0, .bool false, .int .i64 Ev]) (by simp [results, Tryd.results7, go_sem] <;> simp [go_sem, *]) rfl ⟨p1, cc, p2, cc2, by rw [HD.out.1, HD.out.2.1], ⟨by rw [← HD.out.1]; exact hO', by rw [← HD.out.2.1]; exact hO2', HD.out.2.2⟩, hK'⟩
set_option maxRecDepth 20000 in
set_option maxHeartbeats 1000000 in
theorem wants_quo (x n : Int) : Asks 8 9 x n F9 := by
  intro p q c d xs ys w hx hy hwx hwy lx ly hc hd
  obtain ⟨w0, hw0⟩ : ∃ w0, w0 = w.alloc (.cells #[.slice none 0 0, .slice none 0 0, .int .u64 0, .int .i64 0, .bool false, .int .i64 0] 32) := ⟨_, rfl⟩
  have hk00 : Kp w w0 := by rw [hw0]; exact (Kp.refl w).alloc _
  have h := rquo_ p q c d xs ys w0 (hx.grown hk00) (hy.grown hk00) hwx hwy lx ly
  obtain ⟨R, hR⟩ : ∃ R : Rs, R = F9 xs ys := ⟨_, rfl⟩
  rw [← hR]
  obtain ⟨l1, l2, Wv, Zv, Bv, Ev⟩ := R
  have r1 : l1 = _ := congrArg Rs.l1 hR
  have r2 : l2 = _ := congrArg Rs.l2 hR
  have r3 : Wv = _ := congrArg Rs.W hR
  have r4 : Zv = _ := congrArg Rs.Z hR
  have r5 : Bv = _ := congrArg Rs.B hR
  have r6 : Ev = _ := congrArg Rs.E hR
  simp only [F9] at r1 r2 r3 r4 r5 r6
  clear hR
  rw [← r1, ← r2, ← r6] at h
  subst r3
  subst r4
  subst r5
  obtain ⟨N, hN⟩ : ∃ N, N = xs.length := ⟨_, rfl⟩
  obtain ⟨M, hM⟩ : ∃ M, M = ys.length := ⟨_, rfl⟩
  rw [← hN, ← hM] at h
  rw [← hN, ← hM]
  rw [hw0] at h
  skip
  clear hx hy hwx hwy lx ly hN hM hw0 hk00 hc hd r1 r2 r6
  go_enter Tryd.func8, Tryd.ntmps8
  go_wp2_with fail
  refine h.mono ?_; rintro e w1 ⟨⟨p1, cc, p2, cc2, rfl, hO, hO2, hne⟩, hk⟩
  obtain ⟨D, hD⟩ : ∃ D, D = l1.length := ⟨_, rfl⟩
  obtain ⟨D2, hD2⟩ : ∃ D2, D2 = l2.length := ⟨_, rfl⟩
  have HD : Hid (D = l1.length ∧ D2 = l2.length ∧ ∀ g, p1 = some ⟨g, 0, none⟩ → p2 ≠ some ⟨g, 0, none⟩) := ⟨hD, hD2, hne⟩
  rw [← hD] at hO ⊢
  rw [← hD2] at hO2 ⊢
  clear h hD hD2 hne
  have k0 := kkeep hk (b := w.heap.size) (o := 0) (v := .slice none 0 0) (by simp [go_sem])
  have z0 : w1.frozen? ⟨w.heap.size, 0, none⟩ = false := by rw [Below.frozen hk (by simp)]; simp [go_sem]
  have k1 := kkeep hk (b := w.heap.size) (o := 1) (v := .slice none 0 0) (by simp [go_sem])
  have z1 : w1.frozen? ⟨w.heap.size, 1, none⟩ = false := by rw [Below.frozen hk (by simp)]; simp [go_sem]
  have k2 := kkeep hk (b := w.heap.size) (o := 2) (v := .int .u64 0) (by simp [go_sem])
  have z2 : w1.frozen? ⟨w.heap.size, 2, none⟩ = false := by rw [Below.frozen hk (by simp)]; simp [go_sem]
  have k3 := kkeep hk (b := w.heap.size) (o := 3) (v := .int .i64 0) (by simp [go_sem])
  have z3 : w1.frozen? ⟨w.heap.size, 3, none⟩ = false := by rw [Below.frozen hk (by simp)]; simp [go_sem]
  have k4 := kkeep hk (b := w.heap.size) (o := 4) (v := .bool false) (by simp [go_sem])
  have z4 : w1.frozen? ⟨w.heap.size, 4, none⟩ = false := by rw [Below.frozen hk (by simp)]; simp [go_sem]
  have k5 := kkeep hk (b := w.heap.size) (o := 5) (v := .int .i64 0) (by simp [go_sem])
  have z5 : w1.frozen? ⟨w.heap.size, 5, none⟩ = false := by rw [Below.frozen hk (by simp)]; simp [go_sem]
  have hk0 : Kp w w1 := ((Kp.refl w).alloc _).trans hk
  have hO' : Own ((((((w1.setCell ⟨w.heap.size, 0, none⟩ (.slice p1 D cc)).setCell ⟨w.heap.size, 1, none⟩ (.slice p2 D2 cc2)).setCell ⟨w.heap.size, 2, none⟩ (.int .u64 0)).setCell ⟨w.heap.size, 3, none⟩ (.int .i64 0)).setCell ⟨w.heap.size, 4, none⟩ (.bool false)).setCell ⟨w.heap.size, 5, none⟩ (.int .i64 Ev)) w.heap.size (.slice p1 D cc) l1 := Own.mono ((((((hO.setOther (by simp) (.slice p1 D cc)).setOther (by simp) (.slice p2 D2 cc2)).setOther (by simp) (.int .u64 0)).setOther (by simp) (.int .i64 0)).setOther (by simp) (.bool false)).setOther (by simp) (.int .i64 Ev)) (by simp)
  have hO2' : Own ((((((w1.setCell ⟨w.heap.size, 0, none⟩ (.slice p1 D cc)).setCell ⟨w.heap.size, 1, none⟩ (.slice p2 D2 cc2)).setCell ⟨w.heap.size, 2, none⟩ (.int .u64 0)).setCell ⟨w.heap.size, 3, none⟩ (.int .i64 0)).setCell ⟨w.heap.size, 4, none⟩ (.bool false)).setCell ⟨w.heap.size, 5, none⟩ (.int .i64 Ev)) w.heap.size (.slice p2 D2 cc2) l2 := Own.mono ((((((hO2.setOther (by simp) (.slice p1 D cc)).setOther (by simp) (.slice p2 D2 cc2)).setOther (by simp) (.int .u64 0)).setOther (by simp) (.int .i64 0)).setOther (by simp) (.bool false)).setOther (by simp) (.int .i64 Ev)) (by simp)
  have hK' : Kp w ((((((w1.setCell ⟨w.heap.size, 0, none⟩ (.slice p1 D cc)).setCell ⟨w.heap.size, 1, none⟩ (.slice p2 D2 cc2)).setCell ⟨w.heap.size, 2, none⟩ (.int .u64 0)).setCell ⟨w.heap.size, 3, none⟩ (.int .i64 0)).setCell ⟨w.heap.size, 4, none⟩ (.bool false)).setCell ⟨w.heap.size, 5, none⟩ (.int .i64 Ev)) := ((((((hk0.setCell (Nat.le_refl _) (.slice p1 D cc)).setCell (Nat.le_refl _) (.slice p2 D2 cc2)).setCell (Nat.le_refl _) (.int .u64 0)).setCell (Nat.le_refl _) (.int .i64 0)).setCell (Nat.le_refl _) (.bool false)).setCell (Nat.le_refl _) (.int .i64 Ev))
  clear hO hO2 hk hk0
  go_wp2
  exact bodyPost_ret (v := .agg #[.slice p1 D cc, .slice p2 D2 cc2, .int .u64 0, .int .i64 0, .bool false, .int .i64 Ev]) (by simp [results, Tryd.results8, go_sem] <;> simp [go_sem, *]) rfl ⟨p1, cc, p2, cc2, by rw [HD.out.1, HD.out.2.1], ⟨by rw [← HD.out.1]; exact hO', by rw [← HD.out.2.1]; exact hO2', HD.out.2.2⟩, hK'⟩
def F12 (n : Int) : List Int → List Int → Rs := fun xs _ => ⟨(shlN (val xs) n).1, [], 0, 0, false, (shlN (val xs) n).2⟩
def F13 (n : Int) : List Int → List Int → Rs := fun xs _ => ⟨(shrN (val xs) n).1, [], 0, 0, (shrN (val xs) n).2.1, (shrN (val xs) n).2.2⟩
set_option maxRecDepth 20000 in
set_option maxHeartbeats 400000 in
theorem asked_shl (p q : Option Addr) (c d : Nat) (xs ys : List Int) (w : World) (hx : Arr w p xs) (hy : Arr w q ys) (hwx : Wd xs) (hwy : Wd ys) (lx : xs.length < 1048577) (ly : ys.length < 1048577) (hc : xs.length ≤ c) (hd : ys.length ≤ d) (n : Int) :
    Calls Tryd.prog 22 #[.int .i64 12, .slice p xs.length c, .slice q ys.length d, .int .i64 n] w fun e w' => ∃ v, e = .returned (.tuple #[v, .int .i64 (shlN (val xs) n).2]) ∧ Own w' w.heap.size v (shlN (val xs) n).1 ∧ Kp w w' := by
  have h := (fun (_ : Arr w q ys) (_ : Wd ys) (_ : ys.length < 1048577) (_ : ys.length ≤ d) => nshl_ p c xs w n hx hwx (by omega) hc) hy hwy ly hd
  obtain ⟨N, hN⟩ : ∃ N, N = xs.length := ⟨_, rfl⟩
  obtain ⟨M, hM⟩ : ∃ M, M = ys.length := ⟨_, rfl⟩
  obtain ⟨R, hR⟩ : ∃ R, R = shlN (val xs) n := ⟨_, rfl⟩
  obtain ⟨ls, er⟩ := R
  rw [← hN, ← hR] at h
  rw [← hN, ← hM, ← hR]
  clear hx hy hwx hwy lx ly hN hM hR hc hd
  go_enter Tryd.func22, Tryd.ntmps22
  go_wp2_with fail
  refine h.mono ?_; rintro e w1 ⟨v, rfl, hO, hk⟩
  go_wp2
  exact bodyPost_ret (v := .tuple #[v, .int .i64 er]) (by simp [results, Tryd.results22, go_sem] <;> simp only [*]) rfl ⟨v, rfl, hO, hk⟩
set_option maxRecDepth 20000 in
set_option maxHeartbeats 1000000 in
theorem ask_shl (p q : Option Addr) (c d : Nat) (xs ys : List Int) (w : World) (hx : Arr w p xs) (hy : Arr w q ys) (hwx : Wd xs) (hwy : Wd ys) (lx : xs.length < 1048577) (ly : ys.length < 1048577) (hc : xs.length ≤ c) (hd : ys.length ≤ d) (x : Int) (n : Int) :
    Calls Tryd.prog 7 #[.int .i64 12, .slice p xs.length c, .slice q ys.length d, .int .u64 x, .int .i64 n] w fun e w' => ∃ v, e = .returned (.agg #[v, .slice none 0 0, .int .u64 0, .int .i64 0, .bool false, .int .i64 (shlN (val xs) n).2]) ∧ Own w' w.heap.size v (shlN (val xs) n).1 ∧ Kp w w' := by
  obtain ⟨w0, hw0⟩ : ∃ w0, w0 = w.alloc (.cells #[.slice none 0 0, .slice none 0 0, .int .u64 0, .int .i64 0, .bool false, .int .i64 0] 32) := ⟨_, rfl⟩
  have hk00 : Kp w w0 := by rw [hw0]; exact (Kp.refl w).alloc _
  have h := asked_shl p q c d xs ys w0 (hx.grown hk00) (hy.grown hk00) hwx hwy lx ly hc hd n
  obtain ⟨N, hN⟩ : ∃ N, N = xs.length := ⟨_, rfl⟩
  obtain ⟨M, hM⟩ : ∃ M, M = ys.length := ⟨_, rfl⟩
  obtain ⟨R, hR⟩ : ∃ R, R = shlN (val xs) n := ⟨_, rfl⟩
  obtain ⟨ls, er⟩ := R
  rw [← hN, ← hM, ← hR] at h
  rw [← hN, ← hM, ← hR]
  have hcd := code_ er
  rw [hw0] at h
  clear hx hy hwx hwy lx ly hN hM hR hw0 hk00 hc hd
  go_enter Tryd.func7, Tryd.ntmps7
  go_wp2_with fail
  refine h.mono ?_; rintro e w1 ⟨v, rfl, hO, hk⟩
  obtain ⟨p1, cc, rfl, _, _⟩ := hO.arr
  obtain ⟨D, hD⟩ : ∃ D, D = ls.length := ⟨_, rfl⟩
  rw [← hD] at hO ⊢
  clear h hD
  have k0 := kkeep hk (b := w.heap.size) (o := 0) (v := .slice none 0 0) (by simp [go_sem])
  have z0 : w1.frozen? ⟨w.heap.size, 0, none⟩ = false := by rw [Below.frozen hk (by simp)]; simp [go_sem]
  have k1 := kkeep hk (b := w.heap.size) (o := 1) (v := .slice none 0 0) (by simp [go_sem])
  have z1 : w1.frozen? ⟨w.heap.size, 1, none⟩ = false := by rw [Below.frozen hk (by simp)]; simp [go_sem]
  have k2 := kkeep hk (b := w.heap.size) (o := 2) (v := .int .u64 0) (by simp [go_sem])
  have z2 : w1.frozen? ⟨w.heap.size, 2, none⟩ = false := by rw [Below.frozen hk (by simp)]; simp [go_sem]
  have k3 := kkeep hk (b := w.heap.size) (o := 3) (v := .int .i64 0) (by simp [go_sem])
  have z3 : w1.frozen? ⟨w.heap.size, 3, none⟩ = false := by rw [Below.frozen hk (by simp)]; simp [go_sem]
  have k4 := kkeep hk (b := w.heap.size) (o := 4) (v := .bool false) (by simp [go_sem])
  have z4 : w1.frozen? ⟨w.heap.size, 4, none⟩ = false := by rw [Below.frozen hk (by simp)]; simp [go_sem]
  have k5 := kkeep hk (b := w.heap.size) (o := 5) (v := .int .i64 0) (by simp [go_sem])
  have z5 : w1.frozen? ⟨w.heap.size, 5, none⟩ = false := by rw [Below.frozen hk (by simp)]; simp [go_sem]
  have hk0 : Kp w w1 := ((Kp.refl w).alloc _).trans hk
  have hO' : Own ((((((w1.setCell ⟨w.heap.size, 0, none⟩ (.slice p1 D cc)).setCell ⟨w.heap.size, 1, none⟩ (.slice none 0 0)).setCell ⟨w.heap.size, 2, none⟩ (.int .u64 0)).setCell ⟨w.heap.size, 3, none⟩ (.int .i64 0)).setCell ⟨w.heap.size, 4, none⟩ (.bool false)).setCell ⟨w.heap.size, 5, none⟩ (.int .i64 er)) w.heap.size (.slice p1 D cc) ls := Own.mono ((((((hO.setOther (by simp) (.slice p1 D cc)).setOther (by simp) (.slice none 0 0)).setOther (by simp) (.int .u64 0)).setOther (by simp) (.int .i64 0)).setOther (by simp) (.bool false)).setOther (by simp) (.int .i64 er)) (by simp)
  have hK' : Kp w ((((((w1.setCell ⟨w.heap.size, 0, none⟩ (.slice p1 D cc)).setCell ⟨w.heap.size, 1, none⟩ (.slice none 0 0)).setCell ⟨w.heap.size, 2, none⟩ (.int .u64 0)).setCell ⟨w.heap.size, 3, none⟩ (.int .i64 0)).setCell ⟨w.heap.size, 4, none⟩ (.bool false)).setCell ⟨w.heap.size, 5, none⟩ (.int .i64 er)) := ((((((hk0.setCell (Nat.le_refl _) (.slice p1 D cc)).setCell (Nat.le_refl _) (.slice none 0 0)).setCell (Nat.le_refl _) (.int .u64 0)).setCell (Nat.le_refl _) (.int .i64 0)).setCell (Nat.le_refl _) (.bool false)).setCell (Nat.le_refl _) (.int .i64 er))
  clear hO hk hk0
  go_wp2_with (first | (go_at_call 19; refine (hcd _).mono ?_; rintro e w' ⟨rfl, rfl⟩))
  exact bodyPost_ret (v := .agg #[.slice p1 D cc, .slice none 0 0, .int .u64 0, .int .i64 0, .bool false, .int .i64 er]) (by simp [results, Tryd.results7, go_sem] <;> simp [go_sem, *]) rfl ⟨_, rfl, hO', hK'⟩
set_option maxRecDepth 20000 in
set_option maxHeartbeats 400000 in
theorem wanted_shl (p q : Option Addr) (c d : Nat) (xs ys : List Int) (w : World) (hx : Arr w p xs) (hy : Arr w q ys) (hwx : Wd xs) (hwy : Wd ys) (lx : xs.length < 1048577) (ly : ys.length < 1048577) (n : Int) :
    Calls Tryd.prog 32 #[.int .i64 12, .slice p xs.length c, .slice q ys.length d, .int .i64 n] w fun e w' => ∃ v, e = .returned (.tuple #[v, .int .i64 (shlN (val xs) n).2]) ∧ Own w' w.heap.size v (shlN (val xs) n).1 ∧ Kp w w' := by
  have h := (fun (_ : Arr w q ys) (_ : Wd ys) (_ : ys.length < 1048577) => rshl_ p c xs w n hx hwx (by omega)) hy hwy ly
  obtain ⟨N, hN⟩ : ∃ N, N = xs.length := ⟨_, rfl⟩
  obtain ⟨M, hM⟩ : ∃ M, M = ys.length := ⟨_, rfl⟩
  obtain ⟨R, hR⟩ : ∃ R, R = shlN (val xs) n := ⟨_, rfl⟩
  obtain ⟨ls, er⟩ := R
  rw [← hN, ← hR] at h
  rw [← hN, ← hM, ← hR]
  clear hx hy hwx hwy lx ly hN hM hR
  go_enter Tryd.func32, Tryd.ntmps32
  go_wp2_with fail
  refine h.mono ?_; rintro e w1 ⟨v, rfl, hO, hk⟩
  go_wp2
  exact bodyPost_ret (v := .tuple #[v, .int .i64 er]) (by simp [results, Tryd.results32, go_sem] <;> simp only [*]) rfl ⟨v, rfl, hO, hk⟩
set_option maxRecDepth 20000 in
set_option maxHeartbeats 1000000 in
theorem want_shl (p q : Option Addr) (c d : Nat) (xs ys : List Int) (w : World) (hx : Arr w p xs) (hy : Arr w q ys) (hwx : Wd xs) (hwy : Wd ys) (lx : xs.length < 1048577) (ly : ys.length < 1048577) (x : Int) (n : Int) :
    Calls Tryd.prog 8 #[.int .i64 12, .slice p xs.length c, .slice q ys.length d, .int .u64 x, .int .i64 n] w fun e w' => ∃ v, e = .returned (.agg #[v, .slice none 0 0, .int .u64 0, .int .i64 0, .bool false, .int .i64 (shlN (val xs) n).2]) ∧ Own w' w.heap.size v (shlN (val xs) n).1 ∧ Kp w w' := by
  obtain ⟨w0, hw0⟩ : ∃ w0, w0 = w.alloc (.cells #[.slice none 0 0, .slice none 0 0, .int .u64 0, .int .i64 0, .bool false, .int .i64 0] 32) := ⟨_, rfl⟩
  have hk00 : Kp w w0 := by rw [hw0]; exact (Kp.refl w).alloc _
  have h := wanted_shl p q c d xs ys w0 (hx.grown hk00) (hy.grown hk00) hwx hwy lx ly n
  obtain ⟨N, hN⟩ : ∃ N, N = xs.length := ⟨_, rfl⟩
  obtain ⟨M, hM⟩ : ∃ M, M = ys.length := ⟨_, rfl⟩
  obtain ⟨R, hR⟩ : ∃ R, R = shlN (val xs) n := ⟨_, rfl⟩
  obtain ⟨ls, er⟩ := R
  rw [← hN, ← hM, ← hR] at h
  rw [← hN, ← hM, ← hR]
  skip
  rw [hw0] at h
  clear hx hy hwx hwy lx ly hN hM hR hw0 hk00
  go_enter Tryd.func8, Tryd.ntmps8
  go_wp2_with fail
  refine h.mono ?_; rintro e w1 ⟨v, rfl, hO, hk⟩
  obtain ⟨p1, cc, rfl, _, _⟩ := hO.arr
  obtain ⟨D, hD⟩ : ∃ D, D = ls.length := ⟨_, rfl⟩
  rw [← hD] at hO ⊢
  clear h hD
  have k0 := kkeep hk (b := w.heap.size) (o := 0) (v := .slice none 0 0) (by simp [go_sem])
  have z0 : w1.frozen? ⟨w.heap.size, 0, none⟩ = false := by rw [Below.frozen hk (by simp)]; simp [go_sem]
  have k1 := kkeep hk (b := w.heap.size) (o := 1) (v := .slice none 0 0) (by simp [go_sem])
  have z1 : w1.frozen? ⟨w.heap.size, 1, none⟩ = false := by rw [Below.frozen hk (by simp)]; simp [go_sem]
  have k2 := kkeep hk (b := w.heap.size) (o := 2) (v := .int .u64 0) (by simp [go_sem])
  have z2 : w1.frozen? ⟨w.heap.size, 2, none⟩ = false := by rw [Below.frozen hk (by simp)]; simp [go_sem]
  have k3 := kkeep hk (b := w.heap.size) (o := 3) (v := .int .i64 0) (by simp [go_sem])
  have z3 : w1.frozen? ⟨w.heap.size, 3, none⟩ = false := by rw [Below.frozen hk (by simp)]; simp [go_sem]
  have k4 := kkeep hk (b := w.heap.size) (o := 4) (v := .bool false) (by simp [go_sem])
  have z4 : w1.frozen? ⟨w.heap.size, 4, none⟩ = false := by rw [Below.frozen hk (by simp)]; simp [go_sem]
  have k5 := kkeep hk (b := w.heap.size) (o := 5) (v := .int .i64 0) (by simp [go_sem])
  have z5 : w1.frozen? ⟨w.heap.size, 5, none⟩ = false := by rw [Below.frozen hk (by simp)]; simp [go_sem]
  have hk0 : Kp w w1 := ((Kp.refl w).alloc _).trans hk
  have hO' : Own ((((((w1.setCell ⟨w.heap.size, 0, none⟩ (.slice p1 D cc)).setCell ⟨w.heap.size, 1, none⟩ (.slice none 0 0)).setCell ⟨w.heap.size, 2, none⟩ (.int .u64 0)).setCell ⟨w.heap.size, 3, none⟩ (.int .i64 0)).setCell ⟨w.heap.size, 4, none⟩ (.bool false)).setCell ⟨w.heap.size, 5, none⟩ (.int .i64 er)) w.heap.size (.slice p1 D cc) ls := Own.mono ((((((hO.setOther (by simp) (.slice p1 D cc)).setOther (by simp) (.slice none 0 0)).setOther (by simp) (.int .u64 0)).setOther (by simp) (.int .i64 0)).setOther (by simp) (.bool false)).setOther (by simp) (.int .i64 er)) (by simp)
  have hK' : Kp w ((((((w1.setCell ⟨w.heap.size, 0, none⟩ (.slice p1 D cc)).setCell ⟨w.heap.size, 1, none⟩ (.slice none 0 0)).setCell ⟨w.heap.size, 2, none⟩ (.int .u64 0)).setCell ⟨w.heap.size, 3, none⟩ (.int .i64 0)).setCell ⟨w.heap.size, 4, none⟩ (.bool false)).setCell ⟨w.heap.size, 5, none⟩ (.int .i64 er)) := ((((((hk0.setCell (Nat.le_refl _) (.slice p1 D cc)).setCell (Nat.le_refl _) (.slice none 0 0)).setCell (Nat.le_refl _) (.int .u64 0)).setCell (Nat.le_refl _) (.int .i64 0)).setCell (Nat.le_refl _) (.bool false)).setCell (Nat.le_refl _) (.int .i64 er))
  clear hO hk hk0
  go_wp2
  exact bodyPost_ret (v := .agg #[.slice p1 D cc, .slice none 0 0, .int .u64 0, .int .i64 0, .bool false, .int .i64 er]) (by simp [results, Tryd.results8, go_sem] <;> simp [go_sem, *]) rfl ⟨_, rfl, hO', hK'⟩
set_option maxRecDepth 20000 in
set_option maxHeartbeats 1000000 in
theorem ask2_shr (x n : Int) (hn9 : n < 9223372036854775808) : Asks2 7 13 x n (F13 n) := by
  intro p q c d xs ys w hT hx hy hwx hwy lx ly hc hd
  obtain ⟨w0, hw0⟩ : ∃ w0, w0 = w.alloc (.cells #[.slice none 0 0, .slice none 0 0, .int .u64 0, .int .i64 0, .bool false, .int .i64 0] 32) := ⟨_, rfl⟩
  have hk00 : Kp w w0 := by rw [hw0]; exact (Kp.refl w).alloc _
  have h := nshr_ p c xs w0 n hn9 (hT.grown hk00) (hx.grown hk00) hwx lx hc
  obtain ⟨R, hR⟩ : ∃ R : Rs, R = F13 n xs ys := ⟨_, rfl⟩
  rw [← hR]
  obtain ⟨l1, l2, Wv, Zv, Bv, Ev⟩ := R
  have r1 : l1 = _ := congrArg Rs.l1 hR
  have r2 : l2 = _ := congrArg Rs.l2 hR
  have r3 : Wv = _ := congrArg Rs.W hR
  have r4 : Zv = _ := congrArg Rs.Z hR
  have r5 : Bv = _ := congrArg Rs.B hR
  have r6 : Ev = _ := congrArg Rs.E hR
  simp only [F13] at r1 r2 r3 r4 r5 r6
  clear hR
  rw [← r1, ← r5, ← r6] at h
  subst r2
  subst r3
  subst r4
  obtain ⟨N, hN⟩ : ∃ N, N = xs.length := ⟨_, rfl⟩
  obtain ⟨M, hM⟩ : ∃ M, M = ys.length := ⟨_, rfl⟩
  rw [← hN] at h
  rw [← hN, ← hM]
  rw [hw0] at h
  have hcd := code_ Ev
  clear hT hx hy hwx hwy lx ly hN hM hw0 hk00 hc hd r1 r5 r6 hn9
  go_enter Tryd.func7, Tryd.ntmps7
  go_wp2_with fail
  refine h.mono ?_; rintro e w1 ⟨v, rfl, hO, hk⟩
  obtain ⟨p1, cc, rfl, _, _⟩ := hO.arr
  obtain ⟨D, hD⟩ : ∃ D, D = l1.length := ⟨_, rfl⟩
  have HD : Hid (D = l1.length) := hD
  rw [← hD] at hO ⊢
  clear h hD
  have k0 := kkeep hk (b := w.heap.size) (o := 0) (v := .slice none 0 0) (by simp [go_sem])
  have z0 : w1.frozen? ⟨w.heap.size, 0, none⟩ = false := by rw [Below.frozen hk (by simp)]; simp [go_sem]
  have k1 := kkeep hk (b := w.heap.size) (o := 1) (v := .slice none 0 0) (by simp [go_sem])
  have z1 : w1.frozen? ⟨w.heap.size, 1, none⟩ = false := by rw [Below.frozen hk (by simp)]; simp [go_sem]
  have k2 := kkeep hk (b := w.heap.size) (o := 2) (v := .int .u64 0) (by simp [go_sem])
  have z2 : w1.frozen? ⟨w.heap.size, 2, none⟩ = false := by rw [Below.frozen hk (by simp)]; simp [go_sem]
  have k3 := kkeep hk (b := w.heap.size) (o := 3) (v := .int .i64 0) (by simp [go_sem])
  have z3 : w1.frozen? ⟨w.heap.size, 3, none⟩ = false := by rw [Below.frozen hk (by simp)]; simp [go_sem]
  have k4 := kkeep hk (b := w.heap.size) (o := 4) (v := .bool false) (by simp [go_sem])
  have z4 : w1.frozen? ⟨w.heap.size, 4, none⟩ = false := by rw [Below.frozen hk (by simp)]; simp [go_sem]
  have k5 := kkeep hk (b := w.heap.size) (o := 5) (v := .int .i64 0) (by simp [go_sem])
  have z5 : w1.frozen? ⟨w.heap.size, 5, none⟩ = false := by rw [Below.frozen hk (by simp)]; simp [go_sem]
  have hk0 : Kp w w1 := ((Kp.refl w).alloc _).trans hk
  have hO' : Own ((((((w1.setCell ⟨w.heap.size, 0, none⟩ (.slice p1 D cc)).setCell ⟨w.heap.size, 1, none⟩ (.slice none 0 0)).setCell ⟨w.heap.size, 2, none⟩ (.int .u64 0)).setCell ⟨w.heap.size, 3, none⟩ (.int .i64 0)).setCell ⟨w.heap.size, 4, none⟩ (.bool Bv)).setCell ⟨w.heap.size, 5, none⟩ (.int .i64 Ev)) w.heap.size (.slice p1 D cc) l1 := Own.mono ((((((hO.setOther (by simp) (.slice p1 D cc)).setOther (by simp) (.slice none 0 0)).setOther (by simp) (.int .u64 0)).setOther (by simp) (.int .i64 0)).setOther (by simp) (.bool Bv)).setOther (by simp) (.int .i64 Ev)) (by simp)
  have hK' : Kp w ((((((w1.setCell ⟨w.heap.size, 0, none⟩ (.slice p1 D cc)).setCell ⟨w.heap.size, 1, none⟩ (.slice none 0 0)).setCell ⟨w.heap.size, 2, none⟩ (.int .u64 0)).setCell ⟨w.heap.size, 3, none⟩ (.int .i64 0)).setCell ⟨w.heap.size, 4, none⟩ (.bool Bv)).setCell ⟨w.heap.size, 5, none⟩ (.int .i64 Ev)) := ((((((hk0.setCell (Nat.le_refl _) (.slice p1 D cc)).setCell (Nat.le_refl _) (.slice none 0 0)).setCell (Nat.le_refl _) (.int .u64 0)).setCell (Nat.le_refl _) (.int .i64 0)).setCell (Nat.le_refl _) (.bool Bv)).setCell (Nat.le_refl _) (.int .i64 Ev))
  clear hO hk hk0
  go_wp2_with (first | (go_at_call 19; refine (hcd _).mono ?_; rintro e w' ⟨rfl, rfl⟩))
  exact bodyPost_ret (v := .agg #[.slice p1 D cc, .slice none 0 0, .int .u64 0, .int .i64 0, .bool Bv, .int .i64 Ev]) (by simp [results, Tryd.results7, go_sem] <;> simp [go_sem, *]) rfl ⟨p1, cc, none, 0, by rw [HD.out], ⟨by rw [← HD.out]; exact hO', Own.nil _ _, fun g _ h => by cases h⟩, hK'⟩
set_option maxRecDepth 20000 in
set_option maxHeartbeats 1000000 in
theorem want2_shr (x n : Int) (hn9 : n < 9223372036854775808) : Asks2 8 13 x n (F13 n) := by
  intro p q c d xs ys w hT hx hy hwx hwy lx ly hc hd
  obtain ⟨w0, hw0⟩ : ∃ w0, w0 = w.alloc (.cells #[.slice none 0 0, .slice none 0 0, .int .u64 0, .int .i64 0, .bool false, .int .i64 0] 32) := ⟨_, rfl⟩
  have hk00 : Kp w w0 := by rw [hw0]; exact (Kp.refl w).alloc _
  have h := rshr_ p c xs w0 n hn9 (hx.grown hk00) hwx lx
  obtain ⟨R, hR⟩ : ∃ R : Rs, R = F13 n xs ys := ⟨_, rfl⟩
  rw [← hR]
  obtain ⟨l1, l2, Wv, Zv, Bv, Ev⟩ := R
  have r1 : l1 = _ := congrArg Rs.l1 hR
  have r2 : l2 = _ := congrArg Rs.l2 hR
  have r3 : Wv = _ := congrArg Rs.W hR
  have r4 : Zv = _ := congrArg Rs.Z hR
  have r5 : Bv = _ := congrArg Rs.B hR
  have r6 : Ev = _ := congrArg Rs.E hR
  simp only [F13] at r1 r2 r3 r4 r5 r6
  clear hR
  rw [← r1, ← r5, ← r6] at h
  subst r2
  subst r3
  subst r4
  obtain ⟨N, hN⟩ : ∃ N, N = xs.length := ⟨_, rfl⟩
  obtain ⟨M, hM⟩ : ∃ M, M = ys.length := ⟨_, rfl⟩
  rw [← hN] at h
  rw [← hN, ← hM]
  rw [hw0] at h
  skip
  clear hT hx hy hwx hwy lx ly hN hM hw0 hk00 hc hd r1 r5 r6 hn9
  go_enter Tryd.func8, Tryd.ntmps8
  go_wp2_with fail
  refine h.mono ?_; rintro e w1 ⟨v, rfl, hO, hk⟩
  obtain ⟨p1, cc, rfl, _, _⟩ := hO.arr
  obtain ⟨D, hD⟩ : ∃ D, D = l1.length := ⟨_, rfl⟩
  have HD : Hid (D = l1.length) := hD
  rw [← hD] at hO ⊢
  clear h hD
  have k0 := kkeep hk (b := w.heap.size) (o := 0) (v := .slice none 0 0) (by simp [go_sem])
  have z0 : w1.frozen? ⟨w.heap.size, 0, none⟩ = false := by rw [Below.frozen hk (by simp)]; simp [go_sem]
  have k1 := kkeep hk (b := w.heap.size) (o := 1) (v := .slice none 0 0) (by simp [go_sem])
  have z1 : w1.frozen? ⟨w.heap.size, 1, none⟩ = false := by rw [Below.frozen hk (by simp)]; simp [go_sem]
  have k2 := kkeep hk (b := w.heap.size) (o := 2) (v := .int .u64 0) (by simp [go_sem])
  have z2 : w1.frozen? ⟨w.heap.size, 2, none⟩ = false := by rw [Below.frozen hk (by simp)]; simp [go_sem]
  have k3 := kkeep hk (b := w.heap.size) (o := 3) (v := .int .i64 0) (by simp [go_sem])
  have z3 : w1.frozen? ⟨w.heap.size, 3, none⟩ = false := by rw [Below.frozen hk (by simp)]; simp [go_sem]
  have k4 := kkeep hk (b := w.heap.size) (o := 4) (v := .bool false) (by simp [go_sem])
  have z4 : w1.frozen? ⟨w.heap.size, 4, none⟩ = false := by rw [Below.frozen hk (by simp)]; simp [go_sem]
  have k5 := kkeep hk (b := w.heap.size) (o := 5) (v := .int .i64 0) (by simp [go_sem])
  have z5 : w1.frozen? ⟨w.heap.size, 5, none⟩ = false := by rw [Below.frozen hk (by simp)]; simp [go_sem]
  have hk0 : Kp w w1 := ((Kp.refl w).alloc _).trans hk
  have hO' : Own ((((((w1.setCell ⟨w.heap.size, 0, none⟩ (.slice p1 D cc)).setCell ⟨w.heap.size, 1, none⟩ (.slice none 0 0)).setCell ⟨w.heap.size, 2, none⟩ (.int .u64 0)).setCell ⟨w.heap.size, 3, none⟩ (.int .i64 0)).setCell ⟨w.heap.size, 4, none⟩ (.bool Bv)).setCell ⟨w.heap.size, 5, none⟩ (.int .i64 Ev)) w.heap.size (.slice p1 D cc) l1 := Own.mono ((((((hO.setOther (by simp) (.slice p1 D cc)).setOther (by simp) (.slice none 0 0)).setOther (by simp) (.int .u64 0)).setOther (by simp) (.int .i64 0)).setOther (by simp) (.bool Bv)).setOther (by simp) (.int .i64 Ev)) (by simp)
  have hK' : Kp w ((((((w1.setCell ⟨w.heap.size, 0, none⟩ (.slice p1 D cc)).setCell ⟨w.heap.size, 1, none⟩ (.slice none 0 0)).setCell ⟨w.heap.size, 2, none⟩ (.int .u64 0)).setCell ⟨w.heap.size, 3, none⟩ (.int .i64 0)).setCell ⟨w.heap.size, 4, none⟩ (.bool Bv)).setCell ⟨w.heap.size, 5, none⟩ (.int .i64 Ev)) := ((((((hk0.setCell (Nat.le_refl _) (.slice p1 D cc)).setCell (Nat.le_refl _) (.slice none 0 0)).setCell (Nat.le_refl _) (.int .u64 0)).setCell (Nat.le_refl _) (.int .i64 0)).setCell (Nat.le_refl _) (.bool Bv)).setCell (Nat.le_refl _) (.int .i64 Ev))
  clear hO hk hk0
  go_wp2
  exact bodyPost_ret (v := .agg #[.slice p1 D cc, .slice none 0 0, .int .u64 0, .int .i64 0, .bool Bv, .int .i64 Ev]) (by simp [results, Tryd.results8, go_sem] <;> simp [go_sem, *]) rfl ⟨p1, cc, none, 0, by rw [HD.out], ⟨by rw [← HD.out]; exact hO', Own.nil _ _, fun g _ h => by cases h⟩, hK'⟩
def F10 : List Int → List Int → Rs := fun xs _ => ⟨(rootN (val xs)).1, [], 0, 0, (rootN (val xs)).2.1, (rootN (val xs)).2.2⟩
theorem rootN_len (a : Nat) : (rootN a).1.length ≤ 16384 := by
  unfold rootN
  split
  · simp
  · next h1 =>
    show (dig (rtN a)).length ≤ 16384
    have e : (dig (rtN a)).length = len32 (rtN a) := rfl
    have := len32_mono (rt_le a)
    omega
set_option maxRecDepth 20000 in
set_option maxHeartbeats 1000000 in
theorem asks_root (x n : Int) : Asks 7 10 x n F10 := by
  intro p q c d xs ys w hx hy hwx hwy lx ly hc hd
  obtain ⟨w0, hw0⟩ : ∃ w0, w0 = w.alloc (.cells #[.slice none 0 0, .slice none 0 0, .int .u64 0, .int .i64 0, .bool false, .int .i64 0] 32) := ⟨_, rfl⟩
  have hk00 : Kp w w0 := by rw [hw0]; exact (Kp.refl w).alloc _
  have h := nroot_ p c xs w0 (hx.grown hk00) hwx lx hc
  obtain ⟨R, hR⟩ : ∃ R : Rs, R = F10 xs ys := ⟨_, rfl⟩
  rw [← hR]
  obtain ⟨l1, l2, Wv, Zv, Bv, Ev⟩ := R
  have r1 : l1 = _ := congrArg Rs.l1 hR
  have r2 : l2 = _ := congrArg Rs.l2 hR
  have r3 : Wv = _ := congrArg Rs.W hR
  have r4 : Zv = _ := congrArg Rs.Z hR
  have r5 : Bv = _ := congrArg Rs.B hR
  have r6 : Ev = _ := congrArg Rs.E hR
  simp only [F10] at r1 r2 r3 r4 r5 r6
  clear hR
  rw [← r1, ← r5, ← r6] at h
  subst r2
  subst r3
  subst r4
  obtain ⟨N, hN⟩ : ∃ N, N = xs.length := ⟨_, rfl⟩
  obtain ⟨M, hM⟩ : ∃ M, M = ys.length := ⟨_, rfl⟩
  rw [← hN] at h
  rw [← hN, ← hM]
  rw [hw0] at h
  have hcd := code_ Ev
  clear hx hy hwx hwy lx ly hN hM hw0 hk00 hc hd r1 r5 r6
  go_enter Tryd.func7, Tryd.ntmps7
  go_wp2_with fail
  refine h.mono ?_; rintro e w1 ⟨v, rfl, hO, hk⟩
  obtain ⟨p1, cc, rfl, _, _⟩ := hO.arr
  obtain ⟨D, hD⟩ : ∃ D, D = l1.length := ⟨_, rfl⟩
  have HD : Hid (D = l1.length) := hD
  rw [← hD] at hO ⊢
  clear h hD
  have k0 := kkeep hk (b := w.heap.size) (o := 0) (v := .slice none 0 0) (by simp [go_sem])
  have z0 : w1.frozen? ⟨w.heap.size, 0, none⟩ = false := by rw [Below.frozen hk (by simp)]; simp [go_sem]
  have k1 := kkeep hk (b := w.heap.size) (o := 1) (v := .slice none 0 0) (by simp [go_sem])
  have z1 : w1.frozen? ⟨w.heap.size, 1, none⟩ = false := by rw [Below.frozen hk (by simp)]; simp [go_sem]
  have k2 := kkeep hk (b := w.heap.size) (o := 2) (v := .int .u64 0) (by simp [go_sem])
  have z2 : w1.frozen? ⟨w.heap.size, 2, none⟩ = false := by rw [Below.frozen hk (by simp)]; simp [go_sem]
  have k3 := kkeep hk (b := w.heap.size) (o := 3) (v := .int .i64 0) (by simp [go_sem])
  have z3 : w1.frozen? ⟨w.heap.size, 3, none⟩ = false := by rw [Below.frozen hk (by simp)]; simp [go_sem]
  have k4 := kkeep hk (b := w.heap.size) (o := 4) (v := .bool false) (by simp [go_sem])
  have z4 : w1.frozen? ⟨w.heap.size, 4, none⟩ = false := by rw [Below.frozen hk (by simp)]; simp [go_sem]
  have k5 := kkeep hk (b := w.heap.size) (o := 5) (v := .int .i64 0) (by simp [go_sem])
  have z5 : w1.frozen? ⟨w.heap.size, 5, none⟩ = false := by rw [Below.frozen hk (by simp)]; simp [go_sem]
  have hk0 : Kp w w1 := ((Kp.refl w).alloc _).trans hk
  have hO' : Own ((((((w1.setCell ⟨w.heap.size, 0, none⟩ (.slice p1 D cc)).setCell ⟨w.heap.size, 1, none⟩ (.slice none 0 0)).setCell ⟨w.heap.size, 2, none⟩ (.int .u64 0)).setCell ⟨w.heap.size, 3, none⟩ (.int .i64 0)).setCell ⟨w.heap.size, 4, none⟩ (.bool Bv)).setCell ⟨w.heap.size, 5, none⟩ (.int .i64 Ev)) w.heap.size (.slice p1 D cc) l1 := Own.mono ((((((hO.setOther (by simp) (.slice p1 D cc)).setOther (by simp) (.slice none 0 0)).setOther (by simp) (.int .u64 0)).setOther (by simp) (.int .i64 0)).setOther (by simp) (.bool Bv)).setOther (by simp) (.int .i64 Ev)) (by simp)
  have hK' : Kp w ((((((w1.setCell ⟨w.heap.size, 0, none⟩ (.slice p1 D cc)).setCell ⟨w.heap.size, 1, none⟩ (.slice none 0 0)).setCell ⟨w.heap.size, 2, none⟩ (.int .u64 0)).setCell ⟨w.heap.size, 3, none⟩ (.int .i64 0)).setCell ⟨w.heap.size, 4, none⟩ (.bool Bv)).setCell ⟨w.heap.size, 5, none⟩ (.int .i64 Ev)) := ((((((hk0.setCell (Nat.le_refl _) (.slice p1 D cc)).setCell (Nat.le_refl _) (.slice none 0 0)).setCell (Nat.le_refl _) (.int .u64 0)).setCell (Nat.le_refl _) (.int .i64 0)).setCell (Nat.le_refl _) (.bool Bv)).setCell (Nat.le_refl _) (.int .i64 Ev))
  clear hO hk hk0
  go_wp2_with (first | (go_at_call 19; refine (hcd _).mono ?_; rintro e w' ⟨rfl, rfl⟩))
  exact bodyPost_ret (v := .agg #[.slice p1 D cc, .slice none 0 0, .int .u64 0, .int .i64 0, .bool Bv, .int .i64 Ev]) (by simp [results, Tryd.results7, go_sem] <;> simp [go_sem, *]) rfl ⟨p1, cc, none, 0, by rw [HD.out], ⟨by rw [← HD.out]; exact hO', Own.nil _ _, fun g _ h => by cases h⟩, hK'⟩
set_option maxRecDepth 20000 in
set_option maxHeartbeats 1000000 in
theorem wants_root (x n : Int) : Asks 8 10 x n F10 := by
  intro p q c d xs ys w hx hy hwx hwy lx ly hc hd
  obtain ⟨w0, hw0⟩ : ∃ w0, w0 = w.alloc (.cells #[.slice none 0 0, .slice none 0 0, .int .u64 0, .int .i64 0, .bool false, .int .i64 0] 32) := ⟨_, rfl⟩
  have hk00 : Kp w w0 := by rw [hw0]; exact (Kp.refl w).alloc _
  have h := rroot_ p c xs w0 (hx.grown hk00) hwx lx
  obtain ⟨R, hR⟩ : ∃ R : Rs, R = F10 xs ys := ⟨_, rfl⟩
  rw [← hR]
  obtain ⟨l1, l2, Wv, Zv, Bv, Ev⟩ := R
  have r1 : l1 = _ := congrArg Rs.l1 hR
  have r2 : l2 = _ := congrArg Rs.l2 hR
  have r3 : Wv = _ := congrArg Rs.W hR
  have r4 : Zv = _ := congrArg Rs.Z hR
  have r5 : Bv = _ := congrArg Rs.B hR
  have r6 : Ev = _ := congrArg Rs.E hR
  simp only [F10] at r1 r2 r3 r4 r5 r6
  clear hR
  rw [← r1, ← r5, ← r6] at h
  subst r2
  subst r3
  subst r4
  obtain ⟨N, hN⟩ : ∃ N, N = xs.length := ⟨_, rfl⟩
  obtain ⟨M, hM⟩ : ∃ M, M = ys.length := ⟨_, rfl⟩
  rw [← hN] at h
  rw [← hN, ← hM]
  rw [hw0] at h
  skip
  clear hx hy hwx hwy lx ly hN hM hw0 hk00 hc hd r1 r5 r6
  go_enter Tryd.func8, Tryd.ntmps8
  go_wp2_with fail
  refine h.mono ?_; rintro e w1 ⟨v, rfl, hO, hk⟩
  obtain ⟨p1, cc, rfl, _, _⟩ := hO.arr
  obtain ⟨D, hD⟩ : ∃ D, D = l1.length := ⟨_, rfl⟩
  have HD : Hid (D = l1.length) := hD
  rw [← hD] at hO ⊢
  clear h hD
  have k0 := kkeep hk (b := w.heap.size) (o := 0) (v := .slice none 0 0) (by simp [go_sem])
  have z0 : w1.frozen? ⟨w.heap.size, 0, none⟩ = false := by rw [Below.frozen hk (by simp)]; simp [go_sem]
  have k1 := kkeep hk (b := w.heap.size) (o := 1) (v := .slice none 0 0) (by simp [go_sem])
  have z1 : w1.frozen? ⟨w.heap.size, 1, none⟩ = false := by rw [Below.frozen hk (by simp)]; simp [go_sem]
  have k2 := kkeep hk (b := w.heap.size) (o := 2) (v := .int .u64 0) (by simp [go_sem])
  have z2 : w1.frozen? ⟨w.heap.size, 2, none⟩ = false := by rw [Below.frozen hk (by simp)]; simp [go_sem]
  have k3 := kkeep hk (b := w.heap.size) (o := 3) (v := .int .i64 0) (by simp [go_sem])
  have z3 : w1.frozen? ⟨w.heap.size, 3, none⟩ = false := by rw [Below.frozen hk (by simp)]; simp [go_sem]
  have k4 := kkeep hk (b := w.heap.size) (o := 4) (v := .bool false) (by simp [go_sem])
  have z4 : w1.frozen? ⟨w.heap.size, 4, none⟩ = false := by rw [Below.frozen hk (by simp)]; simp [go_sem]
  have k5 := kkeep hk (b := w.heap.size) (o := 5) (v := .int .i64 0) (by simp [go_sem])
  have z5 : w1.frozen? ⟨w.heap.size, 5, none⟩ = false := by rw [Below.frozen hk (by simp)]; simp [go_sem]
  have hk0 : Kp w w1 := ((Kp.refl w).alloc _).trans hk
  have hO' : Own ((((((w1.setCell ⟨w.heap.size, 0, none⟩ (.slice p1 D cc)).setCell ⟨w.heap.size, 1, none⟩ (.slice none 0 0)).setCell ⟨w.heap.size, 2, none⟩ (.int .u64 0)).setCell ⟨w.heap.size, 3, none⟩ (.int .i64 0)).setCell ⟨w.heap.size, 4, none⟩ (.bool Bv)).setCell ⟨w.heap.size, 5, none⟩ (.int .i64 Ev)) w.heap.size (.slice p1 D cc) l1 := Own.mono ((((((hO.setOther (by simp) (.slice p1 D cc)).setOther (by simp) (.slice none 0 0)).setOther (by simp) (.int .u64 0)).setOther (by simp) (.int .i64 0)).setOther (by simp) (.bool Bv)).setOther (by simp) (.int .i64 Ev)) (by simp)
  have hK' : Kp w ((((((w1.setCell ⟨w.heap.size, 0, none⟩ (.slice p1 D cc)).setCell ⟨w.heap.size, 1, none⟩ (.slice none 0 0)).setCell ⟨w.heap.size, 2, none⟩ (.int .u64 0)).setCell ⟨w.heap.size, 3, none⟩ (.int .i64 0)).setCell ⟨w.heap.size, 4, none⟩ (.bool Bv)).setCell ⟨w.heap.size, 5, none⟩ (.int .i64 Ev)) := ((((((hk0.setCell (Nat.le_refl _) (.slice p1 D cc)).setCell (Nat.le_refl _) (.slice none 0 0)).setCell (Nat.le_refl _) (.int .u64 0)).setCell (Nat.le_refl _) (.int .i64 0)).setCell (Nat.le_refl _) (.bool Bv)).setCell (Nat.le_refl _) (.int .i64 Ev))
  clear hO hk hk0
  go_wp2
  exact bodyPost_ret (v := .agg #[.slice p1 D cc, .slice none 0 0, .int .u64 0, .int .i64 0, .bool Bv, .int .i64 Ev]) (by simp [results, Tryd.results8, go_sem] <;> simp [go_sem, *]) rfl ⟨p1, cc, none, 0, by rw [HD.out], ⟨by rw [← HD.out]; exact hO', Own.nil _ _, fun g _ h => by cases h⟩, hK'⟩
def G6 : List Int → List Int → Rs := fun xs ys => ⟨(addN (val xs) (val ys)).1, [], 0, 0, false, (addN (val xs) (val ys)).2⟩
def G7 : List Int → List Int → Rs := fun xs ys => ⟨(subN (val xs) (val ys)).1, [], 0, 0, false, (subN (val xs) (val ys)).2⟩
def G8 : List Int → List Int → Rs := fun xs ys => ⟨(mulN (val xs) (val ys)).1, [], 0, 0, false, (mulN (val xs) (val ys)).2⟩
def G11 (n : Int) : List Int → List Int → Rs := fun xs _ => ⟨(powN (val xs) n).1, [], 0, 0, false, (powN (val xs) n).2⟩
theorem asks2_add (x n : Int) : Asks2 7 6 x n (G6) := by
  intro p q c d xs ys w _ hx hy hwx hwy lx ly hc hd
  exact (ask_add p q c d xs ys w hx hy hwx hwy (by omega) (by omega) hc hd x n).mono (fun e w' ⟨v, h1, h2, h3⟩ => by
    obtain ⟨p1, cc, rfl, _, _⟩ := h2.arr
    exact ⟨p1, cc, none, 0, h1, ⟨h2, Own.nil _ _, fun g _ h => by cases h⟩, h3⟩)
theorem wants2_add (x n : Int) : Asks2 8 6 x n (G6) := by
  intro p q c d xs ys w _ hx hy hwx hwy lx ly _ _
  exact (want_add p q c d xs ys w hx hy hwx hwy (by omega) (by omega) x n).mono (fun e w' ⟨v, h1, h2, h3⟩ => by
    obtain ⟨p1, cc, rfl, _, _⟩ := h2.arr
    exact ⟨p1, cc, none, 0, h1, ⟨h2, Own.nil _ _, fun g _ h => by cases h⟩, h3⟩)
theorem asks2_sub (x n : Int) : Asks2 7 7 x n (G7) := by
  intro p q c d xs ys w _ hx hy hwx hwy lx ly hc hd
  exact (ask_sub p q c d xs ys w hx hy hwx hwy (by omega) (by omega) hc hd x n).mono (fun e w' ⟨v, h1, h2, h3⟩ => by
    obtain ⟨p1, cc, rfl, _, _⟩ := h2.arr
    exact ⟨p1, cc, none, 0, h1, ⟨h2, Own.nil _ _, fun g _ h => by cases h⟩, h3⟩)
theorem wants2_sub (x n : Int) : Asks2 8 7 x n (G7) := by
  intro p q c d xs ys w _ hx hy hwx hwy lx ly _ _
  exact (want_sub p q c d xs ys w hx hy hwx hwy (by omega) (by omega) x n).mono (fun e w' ⟨v, h1, h2, h3⟩ => by
    obtain ⟨p1, cc, rfl, _, _⟩ := h2.arr
    exact ⟨p1, cc, none, 0, h1, ⟨h2, Own.nil _ _, fun g _ h => by cases h⟩, h3⟩)
theorem asks2_mul (x n : Int) : Asks2 7 8 x n (G8) := by
  intro p q c d xs ys w _ hx hy hwx hwy lx ly hc hd
  exact (ask_mul p q c d xs ys w hx hy hwx hwy (by omega) (by omega) hc hd x n).mono (fun e w' ⟨v, h1, h2, h3⟩ => by
    obtain ⟨p1, cc, rfl, _, _⟩ := h2.arr
    exact ⟨p1, cc, none, 0, h1, ⟨h2, Own.nil _ _, fun g _ h => by cases h⟩, h3⟩)
theorem wants2_mul (x n : Int) : Asks2 8 8 x n (G8) := by
  intro p q c d xs ys w _ hx hy hwx hwy lx ly _ _
  exact (want_mul p q c d xs ys w hx hy hwx hwy (by omega) (by omega) x n).mono (fun e w' ⟨v, h1, h2, h3⟩ => by
    obtain ⟨p1, cc, rfl, _, _⟩ := h2.arr
    exact ⟨p1, cc, none, 0, h1, ⟨h2, Own.nil _ _, fun g _ h => by cases h⟩, h3⟩)
theorem asks2_pow (x n : Int) : Asks2 7 11 x n (G11 n) := by
  intro p q c d xs ys w _ hx hy hwx hwy lx ly hc hd
  exact (ask_pow p q c d xs ys w hx hy hwx hwy (by omega) (by omega) hc hd x n).mono (fun e w' ⟨v, h1, h2, h3⟩ => by
    obtain ⟨p1, cc, rfl, _, _⟩ := h2.arr
    exact ⟨p1, cc, none, 0, h1, ⟨h2, Own.nil _ _, fun g _ h => by cases h⟩, h3⟩)
theorem wants2_pow (x n : Int) : Asks2 8 11 x n (G11 n) := by
  intro p q c d xs ys w _ hx hy hwx hwy lx ly _ _
  exact (want_pow p q c d xs ys w hx hy hwx hwy (by omega) (by omega) x n).mono (fun e w' ⟨v, h1, h2, h3⟩ => by
    obtain ⟨p1, cc, rfl, _, _⟩ := h2.arr
    exact ⟨p1, cc, none, 0, h1, ⟨h2, Own.nil _ _, fun g _ h => by cases h⟩, h3⟩)
theorem asks2_shl (x n : Int) : Asks2 7 12 x n (F12 n) := by
  intro p q c d xs ys w _ hx hy hwx hwy lx ly hc hd
  exact (ask_shl p q c d xs ys w hx hy hwx hwy (by omega) (by omega) hc hd x n).mono (fun e w' ⟨v, h1, h2, h3⟩ => by
    obtain ⟨p1, cc, rfl, _, _⟩ := h2.arr
    exact ⟨p1, cc, none, 0, h1, ⟨h2, Own.nil _ _, fun g _ h => by cases h⟩, h3⟩)
theorem wants2_shl (x n : Int) : Asks2 8 12 x n (F12 n) := by
  intro p q c d xs ys w _ hx hy hwx hwy lx ly _ _
  exact (want_shl p q c d xs ys w hx hy hwx hwy (by omega) (by omega) x n).mono (fun e w' ⟨v, h1, h2, h3⟩ => by
    obtain ⟨p1, cc, rfl, _, _⟩ := h2.arr
    exact ⟨p1, cc, none, 0, h1, ⟨h2, Own.nil _ _, fun g _ h => by cases h⟩, h3⟩)
theorem Asks.two {f : Nat} {k v n : Int} {G : List Int → List Int → Rs} (h : Asks f k v n G) : Asks2 f k v n G := fun p q c d xs ys w _ hx hy hwx hwy lx ly hc hd => h p q c d xs ys w hx hy hwx hwy lx ly hc hd
/-- what an answer's lists keep to -/
def Fine (r : Rs) : Prop := Wd r.l1 ∧ Wd r.l2 ∧ r.l1.length ≤ 1048576 ∧ r.l2.length ≤ 1048576
theorem fine_of {l : List Int} {W Z E : Int} {B : Bool} (h1 : Wd l) (h2 : l.length ≤ 16384) : Fine ⟨l, [], W, Z, B, E⟩ := ⟨h1, Wd.nil, by show l.length ≤ _; omega, by simp⟩
theorem fine_nil {W Z E : Int} {B : Bool} : Fine ⟨[], [], W, Z, B, E⟩ := ⟨Wd.nil, Wd.nil, by simp, by simp⟩
theorem addN_fine (a b : Nat) : Wd (addN a b).1 ∧ (addN a b).1.length ≤ 16384 := by
  unfold addN
  split
  · exact ⟨Wd.nil, by simp⟩
  · split
    · exact ⟨Wd.nil, by simp⟩
    · next h => exact ⟨Wd_dig _, by show len32 _ ≤ _; omega⟩
theorem subN_fine (a b : Nat) : Wd (subN a b).1 ∧ (subN a b).1.length ≤ 16384 := by
  unfold subN
  split
  · exact ⟨Wd.nil, by simp⟩
  · split
    · exact ⟨Wd.nil, by simp⟩
    · next h => exact ⟨Wd_dig _, by show len32 _ ≤ _; have := len32_mono (Nat.sub_le a b); omega⟩
theorem mulN_fine (a b : Nat) : Wd (mulN a b).1 ∧ (mulN a b).1.length ≤ 16384 := by
  unfold mulN
  split
  · exact ⟨Wd.nil, by simp⟩
  · split
    · exact ⟨Wd.nil, by simp⟩
    · next h => exact ⟨Wd_dig _, by show len32 _ ≤ _; omega⟩
theorem powN_fine (a : Nat) (n : Int) : Wd (powN a n).1 ∧ (powN a n).1.length ≤ 16384 := by
  unfold powN
  split
  · exact ⟨Wd.nil, by simp⟩
  · split
    · exact ⟨Wd.nil, by simp⟩
    · split
      · exact ⟨Wd.nil, by simp⟩
      · next h => exact ⟨Wd_dig _, by show len32 _ ≤ _; omega⟩
theorem shl_len (a k K : Nat) (h0 : a ≠ 0) (h : blen a + k ≤ 32 * K) : len32 (a * 2 ^ k) ≤ K := by
  have h5 := (blen_spec a h0).2.1
  have h6 : a * 2 ^ k < 2 ^ blen a * 2 ^ k := Nat.mul_lt_mul_of_pos_right h5 (Nat.two_pow_pos _)
  rw [← Nat.pow_add] at h6
  have h7 : 2 ^ (blen a + k) ≤ 2 ^ (32 * K) := Nat.pow_le_pow_right (by omega) h
  rw [← pow32] at h7
  by_cases c : len32 (a * 2 ^ k) ≤ K
  · exact c
  · have := len32_lt (a * 2 ^ k) K (by omega)
    omega
theorem shlN_fine (a : Nat) (n : Int) : Wd (shlN a n).1 ∧ (shlN a n).1.length ≤ 16384 := by
  unfold shlN
  split
  · exact ⟨Wd.nil, by simp⟩
  · split
    · exact ⟨Wd.nil, by simp⟩
    · split
      · exact ⟨Wd.nil, by simp⟩
      · split
        · exact ⟨Wd.nil, by simp⟩
        · next h1 h2 h3 h4 => exact ⟨Wd_dig _, shl_len a n.toNat 16384 h3 (by omega)⟩
theorem shrN_fine (a : Nat) (n : Int) : Wd (shrN a n).1 ∧ (shrN a n).1.length ≤ 16384 := by
  unfold shrN
  split
  · exact ⟨Wd.nil, by simp⟩
  · split
    · exact ⟨Wd.nil, by simp⟩
    · next h1 h2 => exact ⟨Wd_dig _, by show len32 _ ≤ _; have := len32_mono (Nat.div_le_self a (2 ^ n.toNat)); omega⟩
theorem rootN_fine (a : Nat) : Wd (rootN a).1 ∧ (rootN a).1.length ≤ 16384 := by
  unfold rootN
  split
  · exact ⟨Wd.nil, by simp⟩
  · next h => exact ⟨Wd_dig _, by show len32 _ ≤ _; first | (have := len32_mono (rt_le a); omega)⟩
theorem quoN_fine (a b : Nat) : Wd (quoN a b).1 ∧ Wd (quoN a b).2.1 ∧ (quoN a b).1.length ≤ 16384 ∧ (quoN a b).2.1.length ≤ 16384 := by
  unfold quoN
  split
  · exact ⟨Wd.nil, Wd.nil, by simp, by simp⟩
  · split
    · exact ⟨Wd.nil, Wd.nil, by simp, by simp⟩
    · next h1 h2 => exact ⟨Wd_dig _, Wd_dig _, by show len32 _ ≤ _; have := len32_mono (Nat.div_le_self a b); omega, by show len32 _ ≤ _; have := len32_mono (Nat.mod_le a b); omega⟩
theorem small5_ok : Wd (dig 5) ∧ (dig 5).length ≤ 16384 := by
  refine ⟨Wd_dig _, ?_⟩
  have h : (dig 5).length = 1 := by
    unfold dig
    simp
    unfold dig
    simp
  omega
theorem wd_take9 {xs : List Int} (h : Wd xs) (n : Nat) : Wd (xs.take n) := fun j => by
  by_cases c : j < n
  · have e : (xs.take n).getD j 0 = xs.getD j 0 := by simp [List.getD, c]
    rw [e]; exact h j
  · have e : (xs.take n).getD j 0 = 0 := by rw [List.getD, List.getElem?_take, if_neg c]; rfl
    rw [e]; exact ⟨by omega, by omega⟩
/-- at every call the program and the document answer the same -/
theorem plays_asks (k n : Int) (hk0 : 0 ≤ k) (hk1 : k ≤ 13) (hn : n < 9223372036854775808) : ∃ G : List Int → List Int → Rs, Asks2 7 k 5 n G ∧ Asks2 8 k 5 n G ∧ ∀ xs ys, Wd xs → xs.length ≤ 1048576 → Fine (G xs ys) := by
  have hc : k = 0 ∨ k = 1 ∨ k = 2 ∨ k = 3 ∨ k = 4 ∨ k = 5 ∨ k = 6 ∨ k = 7 ∨ k = 8 ∨ k = 9 ∨ k = 10 ∨ k = 11 ∨ k = 12 ∨ k = 13 := by omega
  rcases hc with rfl | rfl | rfl | rfl | rfl | rfl | rfl | rfl | rfl | rfl | rfl | rfl | rfl | rfl
  · exact ⟨F0, ask2_norm 5 n, want2_norm 5 n, fun xs ys h l => ⟨wd_take9 h _, Wd.nil, by show (nz xs).length ≤ _; rw [nz_length]; have := tl_le xs; omega, by simp [F0]⟩⟩
  · exact ⟨F1 5, ask2_small 5 (by decide) n, want2_small 5 (by decide) n, fun xs ys h l => fine_of small5_ok.1 small5_ok.2⟩
  · exact ⟨F2, ask2_word 5 n, want2_word 5 n, fun xs ys h l => fine_nil⟩
  · exact ⟨F3, ask2_cmp 5 n, want2_cmp 5 n, fun xs ys h l => fine_nil⟩
  · exact ⟨F4, ask2_bits 5 n, want2_bits 5 n, fun xs ys h l => fine_nil⟩
  · exact ⟨F5, ask2_zeros 5 n, want2_zeros 5 n, fun xs ys h l => fine_nil⟩
  · exact ⟨G6, asks2_add 5 n, wants2_add 5 n, fun xs ys h l => fine_of (addN_fine _ _).1 (addN_fine _ _).2⟩
  · exact ⟨G7, asks2_sub 5 n, wants2_sub 5 n, fun xs ys h l => fine_of (subN_fine _ _).1 (subN_fine _ _).2⟩
  · exact ⟨G8, asks2_mul 5 n, wants2_mul 5 n, fun xs ys h l => fine_of (mulN_fine _ _).1 (mulN_fine _ _).2⟩
  · exact ⟨F9, (asks_quo 5 n).two, (wants_quo 5 n).two, fun xs ys h l => ⟨(quoN_fine _ _).1, (quoN_fine _ _).2.1, Nat.le_trans (quoN_fine (val xs) (val ys)).2.2.1 (by decide), Nat.le_trans (quoN_fine (val xs) (val ys)).2.2.2 (by decide)⟩⟩
  · exact ⟨F10, (asks_root 5 n).two, (wants_root 5 n).two, fun xs ys h l => fine_of (rootN_fine _).1 (rootN_fine _).2⟩
  · exact ⟨G11 n, asks2_pow 5 n, wants2_pow 5 n, fun xs ys h l => fine_of (powN_fine _ _).1 (powN_fine _ _).2⟩
  · exact ⟨F12 n, asks2_shl 5 n, wants2_shl 5 n, fun xs ys h l => fine_of (shlN_fine _ _).1 (shlN_fine _ _).2⟩
  · exact ⟨F13 n, ask2_shr 5 n hn, want2_shr 5 n hn, fun xs ys h l => fine_of (shrN_fine _ _).1 (shrN_fine _ _).2⟩
end Go.Proofs.YtjblehmafjcncaaDoor
