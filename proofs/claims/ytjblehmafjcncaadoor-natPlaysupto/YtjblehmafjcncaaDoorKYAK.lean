import Derived.Test.YtjblehmafjcncaaDoorProg
import Derived.Test.YtjblehmafjcncaaDoorKXA0
import Derived.Test.YtjblehmafjcncaaDoorKXM
import Derived.Test.YtjblehmafjcncaaDoorKXT
import Derived.Test.YtjblehmafjcncaaDoorKHB
import Derived.Test.YtjblehmafjcncaaDoorKXTZ
import Derived.Test.YtjblehmafjcncaaDoorKRC
import Derived.Test.YtjblehmafjcncaaDoorKNC
import Derived.Test.YtjblehmafjcncaaDoorKLN
import Derived.Test.YtjblehmafjcncaaDoorKW4
import Derived.Test.YtjblehmafjcncaaDoorKNSm
import Derived.Test.YtjblehmafjcncaaDoorKHB2
import Derived.Test.YtjblehmafjcncaaDoorKRN
import Derived.WalkKit
import Derived.ProofKit
import Derived.RowKit3
import Derived.WalkSpells
import Derived.StillTactics
import Derived.Deep.QuietTactic
import Derived.BigQuiet
import Derived.Below
import Derived.Deep.OwnRows
import Derived.OwnWalk
namespace Go.Proofs.YtjblehmafjcncaaDoor
open Go.RowKit
set_option maxRecDepth 20000 in
set_option maxHeartbeats 1000000 in
theorem ask2_norm (x n : Int) : Asks2 7 0 x n F0 := by
  intro p q c d xs ys w hT hx hy hwx hwy lx ly hc hd
  obtain ⟨w0, hw0⟩ : ∃ w0, w0 = w.alloc (.cells #[.slice none 0 0, .slice none 0 0, .int .u64 0, .int .i64 0, .bool false, .int .i64 0] 32) := ⟨_, rfl⟩
  have hk00 : Kp w w0 := by rw [hw0]; exact (Kp.refl w).alloc _
  have h := (nnorm_ p c xs w0 (hx.grown hk00) hwx (by omega) hc)
  rw [← nz_dig xs hwx] at h
  obtain ⟨R, hR⟩ : ∃ R : Rs, R = F0 xs ys := ⟨_, rfl⟩
  rw [← hR]
  obtain ⟨l1, l2, Wv, Zv, Bv, Ev⟩ := R
  have r1 : l1 = _ := congrArg Rs.l1 hR
  have r2 : l2 = _ := congrArg Rs.l2 hR
  have r3 : Wv = _ := congrArg Rs.W hR
  have r4 : Zv = _ := congrArg Rs.Z hR
  have r5 : Bv = _ := congrArg Rs.B hR
  have r6 : Ev = _ := congrArg Rs.E hR
  simp only [F0] at r1 r2 r3 r4 r5 r6
  clear hR
  rw [← r1] at h
  subst r2
  subst r3
  subst r4
  subst r5
  subst r6
  obtain ⟨N, hN⟩ : ∃ N, N = xs.length := ⟨_, rfl⟩
  obtain ⟨M, hM⟩ : ∃ M, M = ys.length := ⟨_, rfl⟩
  rw [← hN] at h
  rw [← hN, ← hM]
  rw [hw0] at h
  clear hT hx hy hwx hwy lx ly hN hM hw0 hk00 hc hd r1
  go_enter Tryd.func7, Tryd.ntmps7
  go_wp2_with fail
  refine h.mono ?_; rintro e w1 ⟨v, rfl, hO, hk⟩
  obtain ⟨p1, cc, rfl, _, _⟩ := hO.arr
  obtain ⟨D, hD⟩ : ∃ D, D = l1.length := ⟨_, rfl⟩
  have HD : Hid (D = l1.length) := hD
  rw [← hD] at hO ⊢
  clear h hD
  have k0 := kkeep hk (b := w.heap.size) (o := 0) (v := .slice none 0 0) (by simp [go_sem])
  have z0 : w1.frozen? ⟨w.heap.size, 0, none⟩ = false := by rw [Below.frozen hk (by simp)]; simp [go_sem]
  have k1 := kkeep hk (b := w.heap.size) (o := 1) (v := .slice none 0 0) (by simp [go_sem])
  have z1 : w1.frozen? ⟨w.heap.size, 1, none⟩ = false := by rw [Below.frozen hk (by simp)]; simp [go_sem]
  have k2 := kkeep hk (b := w.heap.size) (o := 2) (v := .int .u64 0) (by simp [go_sem])
  have z2 : w1.frozen? ⟨w.heap.size, 2, none⟩ = false := by rw [Below.frozen hk (by simp)]; simp [go_sem]
  have k3 := kkeep hk (b := w.heap.size) (o := 3) (v := .int .i64 0) (by simp [go_sem])
  have z3 : w1.frozen? ⟨w.heap.size, 3, none⟩ = false := by rw [Below.frozen hk (by simp)]; simp [go_sem]
  have k4 := kkeep hk (b := w.heap.size) (o := 4) (v := .bool false) (by simp [go_sem])
  have z4 : w1.frozen? ⟨w.heap.size, 4, none⟩ = false := by rw [Below.frozen hk (by simp)]; simp [go_sem]
  have k5 := kkeep hk (b := w.heap.size) (o := 5) (v := .int .i64 0) (by simp [go_sem])
  have z5 : w1.frozen? ⟨w.heap.size, 5, none⟩ = false := by rw [Below.frozen hk (by simp)]; simp [go_sem]
  have hk0 : Kp w w1 := ((Kp.refl w).alloc _).trans hk
  have hO' : Own ((((((w1.setCell ⟨w.heap.size, 0, none⟩ (.slice p1 D cc)).setCell ⟨w.heap.size, 1, none⟩ (.slice none 0 0)).setCell ⟨w.heap.size, 2, none⟩ (.int .u64 0)).setCell ⟨w.heap.size, 3, none⟩ (.int .i64 0)).setCell ⟨w.heap.size, 4, none⟩ (.bool false)).setCell ⟨w.heap.size, 5, none⟩ (.int .i64 0)) w.heap.size (.slice p1 D cc) l1 := Own.mono ((((((hO.setOther (by simp) (.slice p1 D cc)).setOther (by simp) (.slice none 0 0)).setOther (by simp) (.int .u64 0)).setOther (by simp) (.int .i64 0)).setOther (by simp) (.bool false)).setOther (by simp) (.int .i64 0)) (by simp)
  have hK' : Kp w ((((((w1.setCell ⟨w.heap.size, 0, none⟩ (.slice p1 D cc)).setCell ⟨w.heap.size, 1, none⟩ (.slice none 0 0)).setCell ⟨w.heap.size, 2, none⟩ (.int .u64 0)).setCell ⟨w.heap.size, 3, none⟩ (.int .i64 0)).setCell ⟨w.heap.size, 4, none⟩ (.bool false)).setCell ⟨w.heap.size, 5, none⟩ (.int .i64 0)) := ((((((hk0.setCell (Nat.le_refl _) (.slice p1 D cc)).setCell (Nat.le_refl _) (.slice none 0 0)).setCell (Nat.le_refl _) (.int .u64 0)).setCell (Nat.le_refl _) (.int .i64 0)).setCell (Nat.le_refl _) (.bool false)).setCell (Nat.le_refl _) (.int .i64 0))
  clear hO hk hk0
  go_wp2
  exact bodyPost_ret (v := .agg #[.slice p1 D cc, .slice none 0 0, .int .u64 0, .int .i64 0, .bool false, .int .i64 0]) (by simp [results, Tryd.results7, go_sem] <;> simp [go_sem, *]) rfl ⟨p1, cc, none, 0, by rw [HD.out], ⟨by rw [← HD.out]; exact hO', Own.nil _ _, fun g _ h => by cases h⟩, hK'⟩
set_option maxRecDepth 20000 in
set_option maxHeartbeats 1000000 in
theorem ask2_small (x : Nat) (hx64 : x < 18446744073709551616) (n : Int) : Asks2 7 1 (x : Int) n (F1 x) := by
  intro p q c d xs ys w hT hx hy hwx hwy lx ly hc hd
  obtain ⟨w0, hw0⟩ : ∃ w0, w0 = w.alloc (.cells #[.slice none 0 0, .slice none 0 0, .int .u64 0, .int .i64 0, .bool false, .int .i64 0] 32) := ⟨_, rfl⟩
  have hk00 : Kp w w0 := by rw [hw0]; exact (Kp.refl w).alloc _
  have h := (nsmall_ x hx64 w0)
  obtain ⟨R, hR⟩ : ∃ R : Rs, R = (F1 x) xs ys := ⟨_, rfl⟩
  rw [← hR]
  obtain ⟨l1, l2, Wv, Zv, Bv, Ev⟩ := R
  have r1 : l1 = _ := congrArg Rs.l1 hR
  have r2 : l2 = _ := congrArg Rs.l2 hR
  have r3 : Wv = _ := congrArg Rs.W hR
  have r4 : Zv = _ := congrArg Rs.Z hR
  have r5 : Bv = _ := congrArg Rs.B hR
  have r6 : Ev = _ := congrArg Rs.E hR
  simp only [F1] at r1 r2 r3 r4 r5 r6
  clear hR
  rw [← r1] at h
  subst r2
  subst r3
  subst r4
  subst r5
  subst r6
  obtain ⟨N, hN⟩ : ∃ N, N = xs.length := ⟨_, rfl⟩
  obtain ⟨M, hM⟩ : ∃ M, M = ys.length := ⟨_, rfl⟩
  rw [← hN, ← hM]
  rw [hw0] at h
  clear hT hx hy hwx hwy lx ly hN hM hw0 hk00 hc hd r1
  go_enter Tryd.func7, Tryd.ntmps7
  go_wp2_with fail
  refine h.mono ?_; rintro e w1 ⟨v, rfl, hO, hk⟩
  obtain ⟨p1, cc, rfl, _, _⟩ := hO.arr
  obtain ⟨D, hD⟩ : ∃ D, D = l1.length := ⟨_, rfl⟩
  have HD : Hid (D = l1.length) := hD
  rw [← hD] at hO ⊢
  clear h hD
  have k0 := kkeep hk (b := w.heap.size) (o := 0) (v := .slice none 0 0) (by simp [go_sem])
  have z0 : w1.frozen? ⟨w.heap.size, 0, none⟩ = false := by rw [Below.frozen hk (by simp)]; simp [go_sem]
  have k1 := kkeep hk (b := w.heap.size) (o := 1) (v := .slice none 0 0) (by simp [go_sem])
  have z1 : w1.frozen? ⟨w.heap.size, 1, none⟩ = false := by rw [Below.frozen hk (by simp)]; simp [go_sem]
  have k2 := kkeep hk (b := w.heap.size) (o := 2) (v := .int .u64 0) (by simp [go_sem])
  have z2 : w1.frozen? ⟨w.heap.size, 2, none⟩ = false := by rw [Below.frozen hk (by simp)]; simp [go_sem]
  have k3 := kkeep hk (b := w.heap.size) (o := 3) (v := .int .i64 0) (by simp [go_sem])
  have z3 : w1.frozen? ⟨w.heap.size, 3, none⟩ = false := by rw [Below.frozen hk (by simp)]; simp [go_sem]
  have k4 := kkeep hk (b := w.heap.size) (o := 4) (v := .bool false) (by simp [go_sem])
  have z4 : w1.frozen? ⟨w.heap.size, 4, none⟩ = false := by rw [Below.frozen hk (by simp)]; simp [go_sem]
  have k5 := kkeep hk (b := w.heap.size) (o := 5) (v := .int .i64 0) (by simp [go_sem])
  have z5 : w1.frozen? ⟨w.heap.size, 5, none⟩ = false := by rw [Below.frozen hk (by simp)]; simp [go_sem]
  have hk0 : Kp w w1 := ((Kp.refl w).alloc _).trans hk
  have hO' : Own ((((((w1.setCell ⟨w.heap.size, 0, none⟩ (.slice p1 D cc)).setCell ⟨w.heap.size, 1, none⟩ (.slice none 0 0)).setCell ⟨w.heap.size, 2, none⟩ (.int .u64 0)).setCell ⟨w.heap.size, 3, none⟩ (.int .i64 0)).setCell ⟨w.heap.size, 4, none⟩ (.bool false)).setCell ⟨w.heap.size, 5, none⟩ (.int .i64 0)) w.heap.size (.slice p1 D cc) l1 := Own.mono ((((((hO.setOther (by simp) (.slice p1 D cc)).setOther (by simp) (.slice none 0 0)).setOther (by simp) (.int .u64 0)).setOther (by simp) (.int .i64 0)).setOther (by simp) (.bool false)).setOther (by simp) (.int .i64 0)) (by simp)
  have hK' : Kp w ((((((w1.setCell ⟨w.heap.size, 0, none⟩ (.slice p1 D cc)).setCell ⟨w.heap.size, 1, none⟩ (.slice none 0 0)).setCell ⟨w.heap.size, 2, none⟩ (.int .u64 0)).setCell ⟨w.heap.size, 3, none⟩ (.int .i64 0)).setCell ⟨w.heap.size, 4, none⟩ (.bool false)).setCell ⟨w.heap.size, 5, none⟩ (.int .i64 0)) := ((((((hk0.setCell (Nat.le_refl _) (.slice p1 D cc)).setCell (Nat.le_refl _) (.slice none 0 0)).setCell (Nat.le_refl _) (.int .u64 0)).setCell (Nat.le_refl _) (.int .i64 0)).setCell (Nat.le_refl _) (.bool false)).setCell (Nat.le_refl _) (.int .i64 0))
  clear hO hk hk0
  go_wp2
  exact bodyPost_ret (v := .agg #[.slice p1 D cc, .slice none 0 0, .int .u64 0, .int .i64 0, .bool false, .int .i64 0]) (by simp [results, Tryd.results7, go_sem] <;> simp [go_sem, *]) rfl ⟨p1, cc, none, 0, by rw [HD.out], ⟨by rw [← HD.out]; exact hO', Own.nil _ _, fun g _ h => by cases h⟩, hK'⟩
set_option maxRecDepth 20000 in
set_option maxHeartbeats 1000000 in
theorem ask2_word (x n : Int) : Asks2 7 2 x n F2 := by
  intro p q c d xs ys w hT hx hy hwx hwy lx ly hc hd
  obtain ⟨w0, hw0⟩ : ∃ w0, w0 = w.alloc (.cells #[.slice none 0 0, .slice none 0 0, .int .u64 0, .int .i64 0, .bool false, .int .i64 0] 32) := ⟨_, rfl⟩
  have hk00 : Kp w w0 := by rw [hw0]; exact (Kp.refl w).alloc _
  have h := (nword_ p c xs w0 (hx.grown hk00) hwx (by omega) hc).mono (fun e w2 (hh : _ ∧ _) => (⟨hh.1, hh.2 ▸ Kp.refl _⟩ : _ ∧ Kp w0 w2))
  obtain ⟨R, hR⟩ : ∃ R : Rs, R = F2 xs ys := ⟨_, rfl⟩
  rw [← hR]
  obtain ⟨l1, l2, Wv, Zv, Bv, Ev⟩ := R
  have r1 : l1 = _ := congrArg Rs.l1 hR
  have r2 : l2 = _ := congrArg Rs.l2 hR
  have r3 : Wv = _ := congrArg Rs.W hR
  have r4 : Zv = _ := congrArg Rs.Z hR
  have r5 : Bv = _ := congrArg Rs.B hR
  have r6 : Ev = _ := congrArg Rs.E hR
  simp only [F2] at r1 r2 r3 r4 r5 r6
  clear hR
  subst r1
  subst r2
  rw [← r3] at h
  subst r4
  rw [← r5] at h
  subst r6
  obtain ⟨N, hN⟩ : ∃ N, N = xs.length := ⟨_, rfl⟩
  obtain ⟨M, hM⟩ : ∃ M, M = ys.length := ⟨_, rfl⟩
  rw [← hN] at h
  rw [← hN, ← hM]
  rw [hw0] at h
  clear hT hx hy hwx hwy lx ly hN hM hw0 hk00 hc hd r3 r5
  go_enter Tryd.func7, Tryd.ntmps7
  go_wp2_with fail
  refine h.mono ?_; rintro e w1 ⟨rfl, hk⟩
  clear h
  have k0 := kkeep hk (b := w.heap.size) (o := 0) (v := .slice none 0 0) (by simp [go_sem])
  have z0 : w1.frozen? ⟨w.heap.size, 0, none⟩ = false := by rw [Below.frozen hk (by simp)]; simp [go_sem]
  have k1 := kkeep hk (b := w.heap.size) (o := 1) (v := .slice none 0 0) (by simp [go_sem])
  have z1 : w1.frozen? ⟨w.heap.size, 1, none⟩ = false := by rw [Below.frozen hk (by simp)]; simp [go_sem]
  have k2 := kkeep hk (b := w.heap.size) (o := 2) (v := .int .u64 0) (by simp [go_sem])
  have z2 : w1.frozen? ⟨w.heap.size, 2, none⟩ = false := by rw [Below.frozen hk (by simp)]; simp [go_sem]
  have k3 := kkeep hk (b := w.heap.size) (o := 3) (v := .int .i64 0) (by simp [go_sem])
  have z3 : w1.frozen? ⟨w.heap.size, 3, none⟩ = false := by rw [Below.frozen hk (by simp)]; simp [go_sem]
  have k4 := kkeep hk (b := w.heap.size) (o := 4) (v := .bool false) (by simp [go_sem])
  have z4 : w1.frozen? ⟨w.heap.size, 4, none⟩ = false := by rw [Below.frozen hk (by simp)]; simp [go_sem]
  have k5 := kkeep hk (b := w.heap.size) (o := 5) (v := .int .i64 0) (by simp [go_sem])
  have z5 : w1.frozen? ⟨w.heap.size, 5, none⟩ = false := by rw [Below.frozen hk (by simp)]; simp [go_sem]
  have hk0 : Kp w w1 := ((Kp.refl w).alloc _).trans hk
  have hK' : Kp w ((((((w1.setCell ⟨w.heap.size, 0, none⟩ (.slice none 0 0)).setCell ⟨w.heap.size, 1, none⟩ (.slice none 0 0)).setCell ⟨w.heap.size, 2, none⟩ (.int .u64 Wv)).setCell ⟨w.heap.size, 3, none⟩ (.int .i64 0)).setCell ⟨w.heap.size, 4, none⟩ (.bool Bv)).setCell ⟨w.heap.size, 5, none⟩ (.int .i64 0)) := ((((((hk0.setCell (Nat.le_refl _) (.slice none 0 0)).setCell (Nat.le_refl _) (.slice none 0 0)).setCell (Nat.le_refl _) (.int .u64 Wv)).setCell (Nat.le_refl _) (.int .i64 0)).setCell (Nat.le_refl _) (.bool Bv)).setCell (Nat.le_refl _) (.int .i64 0))
  clear hk hk0
  go_wp2
  exact bodyPost_ret (v := .agg #[.slice none 0 0, .slice none 0 0, .int .u64 Wv, .int .i64 0, .bool Bv, .int .i64 0]) (by simp [results, Tryd.results7, go_sem] <;> simp [go_sem, *]) rfl ⟨none, 0, none, 0, rfl, ⟨Own.nil _ _, Own.nil _ _, fun g h => by cases h⟩, hK'⟩
set_option maxRecDepth 20000 in
set_option maxHeartbeats 1000000 in
theorem ask2_cmp (x n : Int) : Asks2 7 3 x n F3 := by
  intro p q c d xs ys w hT hx hy hwx hwy lx ly hc hd
  obtain ⟨w0, hw0⟩ : ∃ w0, w0 = w.alloc (.cells #[.slice none 0 0, .slice none 0 0, .int .u64 0, .int .i64 0, .bool false, .int .i64 0] 32) := ⟨_, rfl⟩
  have hk00 : Kp w w0 := by rw [hw0]; exact (Kp.refl w).alloc _
  have h := (ncmp_ p q c d xs ys w0 (hx.grown hk00) (hy.grown hk00) hwx hwy (by omega) (by omega) hc hd)
  obtain ⟨R, hR⟩ : ∃ R : Rs, R = F3 xs ys := ⟨_, rfl⟩
  rw [← hR]
  obtain ⟨l1, l2, Wv, Zv, Bv, Ev⟩ := R
  have r1 : l1 = _ := congrArg Rs.l1 hR
  have r2 : l2 = _ := congrArg Rs.l2 hR
  have r3 : Wv = _ := congrArg Rs.W hR
  have r4 : Zv = _ := congrArg Rs.Z hR
  have r5 : Bv = _ := congrArg Rs.B hR
  have r6 : Ev = _ := congrArg Rs.E hR
  simp only [F3] at r1 r2 r3 r4 r5 r6
  clear hR
  subst r1
  subst r2
  subst r3
  rw [← r4] at h
  subst r5
  subst r6
  obtain ⟨N, hN⟩ : ∃ N, N = xs.length := ⟨_, rfl⟩
  obtain ⟨M, hM⟩ : ∃ M, M = ys.length := ⟨_, rfl⟩
  rw [← hN] at h
  rw [← hM] at h
  rw [← hN, ← hM]
  rw [hw0] at h
  clear hT hx hy hwx hwy lx ly hN hM hw0 hk00 hc hd r4
  go_enter Tryd.func7, Tryd.ntmps7
  go_wp2_with fail
  refine h.mono ?_; rintro e w1 ⟨rfl, hk⟩
  clear h
  have k0 := kkeep hk (b := w.heap.size) (o := 0) (v := .slice none 0 0) (by simp [go_sem])
  have z0 : w1.frozen? ⟨w.heap.size, 0, none⟩ = false := by rw [Below.frozen hk (by simp)]; simp [go_sem]
  have k1 := kkeep hk (b := w.heap.size) (o := 1) (v := .slice none 0 0) (by simp [go_sem])
  have z1 : w1.frozen? ⟨w.heap.size, 1, none⟩ = false := by rw [Below.frozen hk (by simp)]; simp [go_sem]
  have k2 := kkeep hk (b := w.heap.size) (o := 2) (v := .int .u64 0) (by simp [go_sem])
  have z2 : w1.frozen? ⟨w.heap.size, 2, none⟩ = false := by rw [Below.frozen hk (by simp)]; simp [go_sem]
  have k3 := kkeep hk (b := w.heap.size) (o := 3) (v := .int .i64 0) (by simp [go_sem])
  have z3 : w1.frozen? ⟨w.heap.size, 3, none⟩ = false := by rw [Below.frozen hk (by simp)]; simp [go_sem]
  have k4 := kkeep hk (b := w.heap.size) (o := 4) (v := .bool false) (by simp [go_sem])
  have z4 : w1.frozen? ⟨w.heap.size, 4, none⟩ = false := by rw [Below.frozen hk (by simp)]; simp [go_sem]
  have k5 := kkeep hk (b := w.heap.size) (o := 5) (v := .int .i64 0) (by simp [go_sem])
  have z5 : w1.frozen? ⟨w.heap.size, 5, none⟩ = false := by rw [Below.frozen hk (by simp)]; simp [go_sem]
  have hk0 : Kp w w1 := ((Kp.refl w).alloc _).trans hk
  have hK' : Kp w ((((((w1.setCell ⟨w.heap.size, 0, none⟩ (.slice none 0 0)).setCell ⟨w.heap.size, 1, none⟩ (.slice none 0 0)).setCell ⟨w.heap.size, 2, none⟩ (.int .u64 0)).setCell ⟨w.heap.size, 3, none⟩ (.int .i64 Zv)).setCell ⟨w.heap.size, 4, none⟩ (.bool false)).setCell ⟨w.heap.size, 5, none⟩ (.int .i64 0)) := ((((((hk0.setCell (Nat.le_refl _) (.slice none 0 0)).setCell (Nat.le_refl _) (.slice none 0 0)).setCell (Nat.le_refl _) (.int .u64 0)).setCell (Nat.le_refl _) (.int .i64 Zv)).setCell (Nat.le_refl _) (.bool false)).setCell (Nat.le_refl _) (.int .i64 0))
  clear hk hk0
  go_wp2
  exact bodyPost_ret (v := .agg #[.slice none 0 0, .slice none 0 0, .int .u64 0, .int .i64 Zv, .bool false, .int .i64 0]) (by simp [results, Tryd.results7, go_sem] <;> simp [go_sem, *]) rfl ⟨none, 0, none, 0, rfl, ⟨Own.nil _ _, Own.nil _ _, fun g h => by cases h⟩, hK'⟩
set_option maxRecDepth 20000 in
set_option maxHeartbeats 1000000 in
theorem ask2_bits (x n : Int) : Asks2 7 4 x n F4 := by
  intro p q c d xs ys w hT hx hy hwx hwy lx ly hc hd
  obtain ⟨w0, hw0⟩ : ∃ w0, w0 = w.alloc (.cells #[.slice none 0 0, .slice none 0 0, .int .u64 0, .int .i64 0, .bool false, .int .i64 0] 32) := ⟨_, rfl⟩
  have hk00 : Kp w w0 := by rw [hw0]; exact (Kp.refl w).alloc _
  have h := (nlen_ p c xs w0 (hx.grown hk00) hwx (by omega) hc).mono (fun e w2 (hh : _ ∧ _) => (⟨hh.1, hh.2 ▸ Kp.refl _⟩ : _ ∧ Kp w0 w2))
  obtain ⟨R, hR⟩ : ∃ R : Rs, R = F4 xs ys := ⟨_, rfl⟩
  rw [← hR]
  obtain ⟨l1, l2, Wv, Zv, Bv, Ev⟩ := R
  have r1 : l1 = _ := congrArg Rs.l1 hR
  have r2 : l2 = _ := congrArg Rs.l2 hR
  have r3 : Wv = _ := congrArg Rs.W hR
  have r4 : Zv = _ := congrArg Rs.Z hR
  have r5 : Bv = _ := congrArg Rs.B hR
  have r6 : Ev = _ := congrArg Rs.E hR
  simp only [F4] at r1 r2 r3 r4 r5 r6
  clear hR
  subst r1
  subst r2
  subst r3
  rw [← r4] at h
  subst r5
  subst r6
  obtain ⟨N, hN⟩ : ∃ N, N = xs.length := ⟨_, rfl⟩
  obtain ⟨M, hM⟩ : ∃ M, M = ys.length := ⟨_, rfl⟩
  rw [← hN] at h
  rw [← hN, ← hM]
  rw [hw0] at h
  clear hT hx hy hwx hwy lx ly hN hM hw0 hk00 hc hd r4
  go_enter Tryd.func7, Tryd.ntmps7
  go_wp2_with fail
  refine h.mono ?_; rintro e w1 ⟨rfl, hk⟩
  clear h
  have k0 := kkeep hk (b := w.heap.size) (o := 0) (v := .slice none 0 0) (by simp [go_sem])
  have z0 : w1.frozen? ⟨w.heap.size, 0, none⟩ = false := by rw [Below.frozen hk (by simp)]; simp [go_sem]
  have k1 := kkeep hk (b := w.heap.size) (o := 1) (v := .slice none 0 0) (by simp [go_sem])
  have z1 : w1.frozen? ⟨w.heap.size, 1, none⟩ = false := by rw [Below.frozen hk (by simp)]; simp [go_sem]
  have k2 := kkeep hk (b := w.heap.size) (o := 2) (v := .int .u64 0) (by simp [go_sem])
  have z2 : w1.frozen? ⟨w.heap.size, 2, none⟩ = false := by rw [Below.frozen hk (by simp)]; simp [go_sem]
  have k3 := kkeep hk (b := w.heap.size) (o := 3) (v := .int .i64 0) (by simp [go_sem])
  have z3 : w1.frozen? ⟨w.heap.size, 3, none⟩ = false := by rw [Below.frozen hk (by simp)]; simp [go_sem]
  have k4 := kkeep hk (b := w.heap.size) (o := 4) (v := .bool false) (by simp [go_sem])
  have z4 : w1.frozen? ⟨w.heap.size, 4, none⟩ = false := by rw [Below.frozen hk (by simp)]; simp [go_sem]
  have k5 := kkeep hk (b := w.heap.size) (o := 5) (v := .int .i64 0) (by simp [go_sem])
  have z5 : w1.frozen? ⟨w.heap.size, 5, none⟩ = false := by rw [Below.frozen hk (by simp)]; simp [go_sem]
  have hk0 : Kp w w1 := ((Kp.refl w).alloc _).trans hk
  have hK' : Kp w ((((((w1.setCell ⟨w.heap.size, 0, none⟩ (.slice none 0 0)).setCell ⟨w.heap.size, 1, none⟩ (.slice none 0 0)).setCell ⟨w.heap.size, 2, none⟩ (.int .u64 0)).setCell ⟨w.heap.size, 3, none⟩ (.int .i64 Zv)).setCell ⟨w.heap.size, 4, none⟩ (.bool false)).setCell ⟨w.heap.size, 5, none⟩ (.int .i64 0)) := ((((((hk0.setCell (Nat.le_refl _) (.slice none 0 0)).setCell (Nat.le_refl _) (.slice none 0 0)).setCell (Nat.le_refl _) (.int .u64 0)).setCell (Nat.le_refl _) (.int .i64 Zv)).setCell (Nat.le_refl _) (.bool false)).setCell (Nat.le_refl _) (.int .i64 0))
  clear hk hk0
  go_wp2
  exact bodyPost_ret (v := .agg #[.slice none 0 0, .slice none 0 0, .int .u64 0, .int .i64 Zv, .bool false, .int .i64 0]) (by simp [results, Tryd.results7, go_sem] <;> simp [go_sem, *]) rfl ⟨none, 0, none, 0, rfl, ⟨Own.nil _ _, Own.nil _ _, fun g h => by cases h⟩, hK'⟩
set_option maxRecDepth 20000 in
set_option maxHeartbeats 1000000 in
theorem ask2_zeros (x n : Int) : Asks2 7 5 x n F5 := by
  intro p q c d xs ys w hT hx hy hwx hwy lx ly hc hd
  obtain ⟨w0, hw0⟩ : ∃ w0, w0 = w.alloc (.cells #[.slice none 0 0, .slice none 0 0, .int .u64 0, .int .i64 0, .bool false, .int .i64 0] 32) := ⟨_, rfl⟩
  have hk00 : Kp w w0 := by rw [hw0]; exact (Kp.refl w).alloc _
  have h := (nzeros_ p c xs w0 (hx.grown hk00) hwx (by omega) (hT.grown hk00)).mono (fun e w2 (hh : _ ∧ _) => (⟨hh.1, hh.2 ▸ Kp.refl _⟩ : _ ∧ Kp w0 w2))
  obtain ⟨R, hR⟩ : ∃ R : Rs, R = F5 xs ys := ⟨_, rfl⟩
  rw [← hR]
  obtain ⟨l1, l2, Wv, Zv, Bv, Ev⟩ := R
  have r1 : l1 = _ := congrArg Rs.l1 hR
  have r2 : l2 = _ := congrArg Rs.l2 hR
  have r3 : Wv = _ := congrArg Rs.W hR
  have r4 : Zv = _ := congrArg Rs.Z hR
  have r5 : Bv = _ := congrArg Rs.B hR
  have r6 : Ev = _ := congrArg Rs.E hR
  simp only [F5] at r1 r2 r3 r4 r5 r6
  clear hR
  subst r1
  subst r2
  subst r3
  rw [← r4] at h
  subst r5
  subst r6
  obtain ⟨N, hN⟩ : ∃ N, N = xs.length := ⟨_, rfl⟩
  obtain ⟨M, hM⟩ : ∃ M, M = ys.length := ⟨_, rfl⟩
  rw [← hN] at h
  rw [← hN, ← hM]
  rw [hw0] at h
  clear hT hx hy hwx hwy lx ly hN hM hw0 hk00 hc hd r4
  go_enter Tryd.func7, Tryd.ntmps7
  go_wp2_with fail
  refine h.mono ?_; rintro e w1 ⟨rfl, hk⟩
  clear h
  have k0 := kkeep hk (b := w.heap.size) (o := 0) (v := .slice none 0 0) (by simp [go_sem])
  have z0 : w1.frozen? ⟨w.heap.size, 0, none⟩ = false := by rw [Below.frozen hk (by simp)]; simp [go_sem]
  have k1 := kkeep hk (b := w.heap.size) (o := 1) (v := .slice none 0 0) (by simp [go_sem])
  have z1 : w1.frozen? ⟨w.heap.size, 1, none⟩ = false := by rw [Below.frozen hk (by simp)]; simp [go_sem]
  have k2 := kkeep hk (b := w.heap.size) (o := 2) (v := .int .u64 0) (by simp [go_sem])
  have z2 : w1.frozen? ⟨w.heap.size, 2, none⟩ = false := by rw [Below.frozen hk (by simp)]; simp [go_sem]
  have k3 := kkeep hk (b := w.heap.size) (o := 3) (v := .int .i64 0) (by simp [go_sem])
  have z3 : w1.frozen? ⟨w.heap.size, 3, none⟩ = false := by rw [Below.frozen hk (by simp)]; simp [go_sem]
  have k4 := kkeep hk (b := w.heap.size) (o := 4) (v := .bool false) (by simp [go_sem])
  have z4 : w1.frozen? ⟨w.heap.size, 4, none⟩ = false := by rw [Below.frozen hk (by simp)]; simp [go_sem]
  have k5 := kkeep hk (b := w.heap.size) (o := 5) (v := .int .i64 0) (by simp [go_sem])
  have z5 : w1.frozen? ⟨w.heap.size, 5, none⟩ = false := by rw [Below.frozen hk (by simp)]; simp [go_sem]
  have hk0 : Kp w w1 := ((Kp.refl w).alloc _).trans hk
  have hK' : Kp w ((((((w1.setCell ⟨w.heap.size, 0, none⟩ (.slice none 0 0)).setCell ⟨w.heap.size, 1, none⟩ (.slice none 0 0)).setCell ⟨w.heap.size, 2, none⟩ (.int .u64 0)).setCell ⟨w.heap.size, 3, none⟩ (.int .i64 Zv)).setCell ⟨w.heap.size, 4, none⟩ (.bool false)).setCell ⟨w.heap.size, 5, none⟩ (.int .i64 0)) := ((((((hk0.setCell (Nat.le_refl _) (.slice none 0 0)).setCell (Nat.le_refl _) (.slice none 0 0)).setCell (Nat.le_refl _) (.int .u64 0)).setCell (Nat.le_refl _) (.int .i64 Zv)).setCell (Nat.le_refl _) (.bool false)).setCell (Nat.le_refl _) (.int .i64 0))
  clear hk hk0
  go_wp2
  exact bodyPost_ret (v := .agg #[.slice none 0 0, .slice none 0 0, .int .u64 0, .int .i64 Zv, .bool false, .int .i64 0]) (by simp [results, Tryd.results7, go_sem] <;> simp [go_sem, *]) rfl ⟨none, 0, none, 0, rfl, ⟨Own.nil _ _, Own.nil _ _, fun g h => by cases h⟩, hK'⟩
set_option maxRecDepth 20000 in
set_option maxHeartbeats 1000000 in
theorem want2_norm (x n : Int) : Asks2 8 0 x n F0 := by
  intro p q c d xs ys w hT hx hy hwx hwy lx ly hc hd
  obtain ⟨w0, hw0⟩ : ∃ w0, w0 = w.alloc (.cells #[.slice none 0 0, .slice none 0 0, .int .u64 0, .int .i64 0, .bool false, .int .i64 0] 32) := ⟨_, rfl⟩
  have hk00 : Kp w w0 := by rw [hw0]; exact (Kp.refl w).alloc _
  have h := (rnorm_ p c xs w0 (hx.grown hk00) (by omega))
  obtain ⟨R, hR⟩ : ∃ R : Rs, R = F0 xs ys := ⟨_, rfl⟩
  rw [← hR]
  obtain ⟨l1, l2, Wv, Zv, Bv, Ev⟩ := R
  have r1 : l1 = _ := congrArg Rs.l1 hR
  have r2 : l2 = _ := congrArg Rs.l2 hR
  have r3 : Wv = _ := congrArg Rs.W hR
  have r4 : Zv = _ := congrArg Rs.Z hR
  have r5 : Bv = _ := congrArg Rs.B hR
  have r6 : Ev = _ := congrArg Rs.E hR
  simp only [F0] at r1 r2 r3 r4 r5 r6
  clear hR
  rw [← r1] at h
  subst r2
  subst r3
  subst r4
  subst r5
  subst r6
  obtain ⟨N, hN⟩ : ∃ N, N = xs.length := ⟨_, rfl⟩
  obtain ⟨M, hM⟩ : ∃ M, M = ys.length := ⟨_, rfl⟩
  rw [← hN] at h
  rw [← hN, ← hM]
  rw [hw0] at h
  clear hT hx hy hwx hwy lx ly hN hM hw0 hk00 hc hd r1
  go_enter Tryd.func8, Tryd.ntmps8
  go_wp2_with fail
  refine h.mono ?_; rintro e w1 ⟨v, rfl, hO, hk⟩
  obtain ⟨p1, cc, rfl, _, _⟩ := hO.arr
  obtain ⟨D, hD⟩ : ∃ D, D = l1.length := ⟨_, rfl⟩
  have HD : Hid (D = l1.length) := hD
  rw [← hD] at hO ⊢
  clear h hD
  have k0 := kkeep hk (b := w.heap.size) (o := 0) (v := .slice none 0 0) (by simp [go_sem])
  have z0 : w1.frozen? ⟨w.heap.size, 0, none⟩ = false := by rw [Below.frozen hk (by simp)]; simp [go_sem]
  have k1 := kkeep hk (b := w.heap.size) (o := 1) (v := .slice none 0 0) (by simp [go_sem])
  have z1 : w1.frozen? ⟨w.heap.size, 1, none⟩ = false := by rw [Below.frozen hk (by simp)]; simp [go_sem]
  have k2 := kkeep hk (b := w.heap.size) (o := 2) (v := .int .u64 0) (by simp [go_sem])
  have z2 : w1.frozen? ⟨w.heap.size, 2, none⟩ = false := by rw [Below.frozen hk (by simp)]; simp [go_sem]
  have k3 := kkeep hk (b := w.heap.size) (o := 3) (v := .int .i64 0) (by simp [go_sem])
  have z3 : w1.frozen? ⟨w.heap.size, 3, none⟩ = false := by rw [Below.frozen hk (by simp)]; simp [go_sem]
  have k4 := kkeep hk (b := w.heap.size) (o := 4) (v := .bool false) (by simp [go_sem])
  have z4 : w1.frozen? ⟨w.heap.size, 4, none⟩ = false := by rw [Below.frozen hk (by simp)]; simp [go_sem]
  have k5 := kkeep hk (b := w.heap.size) (o := 5) (v := .int .i64 0) (by simp [go_sem])
  have z5 : w1.frozen? ⟨w.heap.size, 5, none⟩ = false := by rw [Below.frozen hk (by simp)]; simp [go_sem]
  have hk0 : Kp w w1 := ((Kp.refl w).alloc _).trans hk
  have hO' : Own ((((((w1.setCell ⟨w.heap.size, 0, none⟩ (.slice p1 D cc)).setCell ⟨w.heap.size, 1, none⟩ (.slice none 0 0)).setCell ⟨w.heap.size, 2, none⟩ (.int .u64 0)).setCell ⟨w.heap.size, 3, none⟩ (.int .i64 0)).setCell ⟨w.heap.size, 4, none⟩ (.bool false)).setCell ⟨w.heap.size, 5, none⟩ (.int .i64 0)) w.heap.size (.slice p1 D cc) l1 := Own.mono ((((((hO.setOther (by simp) (.slice p1 D cc)).setOther (by simp) (.slice none 0 0)).setOther (by simp) (.int .u64 0)).setOther (by simp) (.int .i64 0)).setOther (by simp) (.bool false)).setOther (by simp) (.int .i64 0)) (by simp)
  have hK' : Kp w ((((((w1.setCell ⟨w.heap.size, 0, none⟩ (.slice p1 D cc)).setCell ⟨w.heap.size, 1, none⟩ (.slice none 0 0)).setCell ⟨w.heap.size, 2, none⟩ (.int .u64 0)).setCell ⟨w.heap.size, 3, none⟩ (.int .i64 0)).setCell ⟨w.heap.size, 4, none⟩ (.bool false)).setCell ⟨w.heap.size, 5, none⟩ (.int .i64 0)) := ((((((hk0.setCell (Nat.le_refl _) (.slice p1 D cc)).setCell (Nat.le_refl _) (.slice none 0 0)).setCell (Nat.le_refl _) (.int .u64 0)).setCell (Nat.le_refl _) (.int .i64 0)).setCell (Nat.le_refl _) (.bool false)).setCell (Nat.le_refl _) (.int .i64 0))
  clear hO hk hk0
  go_wp2
  exact bodyPost_ret (v := .agg #[.slice p1 D cc, .slice none 0 0, .int .u64 0, .int .i64 0, .bool false, .int .i64 0]) (by simp [results, Tryd.results8, go_sem] <;> simp [go_sem, *]) rfl ⟨p1, cc, none, 0, by rw [HD.out], ⟨by rw [← HD.out]; exact hO', Own.nil _ _, fun g _ h => by cases h⟩, hK'⟩
set_option maxRecDepth 20000 in
set_option maxHeartbeats 1000000 in
theorem want2_small (x : Nat) (hx64 : x < 18446744073709551616) (n : Int) : Asks2 8 1 (x : Int) n (F1 x) := by
  intro p q c d xs ys w hT hx hy hwx hwy lx ly hc hd
  obtain ⟨w0, hw0⟩ : ∃ w0, w0 = w.alloc (.cells #[.slice none 0 0, .slice none 0 0, .int .u64 0, .int .i64 0, .bool false, .int .i64 0] 32) := ⟨_, rfl⟩
  have hk00 : Kp w w0 := by rw [hw0]; exact (Kp.refl w).alloc _
  have h := (rsmall_ x hx64 w0)
  obtain ⟨R, hR⟩ : ∃ R : Rs, R = (F1 x) xs ys := ⟨_, rfl⟩
  rw [← hR]
  obtain ⟨l1, l2, Wv, Zv, Bv, Ev⟩ := R
  have r1 : l1 = _ := congrArg Rs.l1 hR
  have r2 : l2 = _ := congrArg Rs.l2 hR
  have r3 : Wv = _ := congrArg Rs.W hR
  have r4 : Zv = _ := congrArg Rs.Z hR
  have r5 : Bv = _ := congrArg Rs.B hR
  have r6 : Ev = _ := congrArg Rs.E hR
  simp only [F1] at r1 r2 r3 r4 r5 r6
  clear hR
  rw [← r1] at h
  subst r2
  subst r3
  subst r4
  subst r5
  subst r6
  obtain ⟨N, hN⟩ : ∃ N, N = xs.length := ⟨_, rfl⟩
  obtain ⟨M, hM⟩ : ∃ M, M = ys.length := ⟨_, rfl⟩
  rw [← hN, ← hM]
  rw [hw0] at h
  clear hT hx hy hwx hwy lx ly hN hM hw0 hk00 hc hd r1
  go_enter Tryd.func8, Tryd.ntmps8
  go_wp2_with fail
  refine h.mono ?_; rintro e w1 ⟨v, rfl, hO, hk⟩
  obtain ⟨p1, cc, rfl, _, _⟩ := hO.arr
  obtain ⟨D, hD⟩ : ∃ D, D = l1.length := ⟨_, rfl⟩
  have HD : Hid (D = l1.length) := hD
  rw [← hD] at hO ⊢
  clear h hD
  have k0 := kkeep hk (b := w.heap.size) (o := 0) (v := .slice none 0 0) (by simp [go_sem])
  have z0 : w1.frozen? ⟨w.heap.size, 0, none⟩ = false := by rw [Below.frozen hk (by simp)]; simp [go_sem]
  have k1 := kkeep hk (b := w.heap.size) (o := 1) (v := .slice none 0 0) (by simp [go_sem])
  have z1 : w1.frozen? ⟨w.heap.size, 1, none⟩ = false := by rw [Below.frozen hk (by simp)]; simp [go_sem]
  have k2 := kkeep hk (b := w.heap.size) (o := 2) (v := .int .u64 0) (by simp [go_sem])
  have z2 : w1.frozen? ⟨w.heap.size, 2, none⟩ = false := by rw [Below.frozen hk (by simp)]; simp [go_sem]
  have k3 := kkeep hk (b := w.heap.size) (o := 3) (v := .int .i64 0) (by simp [go_sem])
  have z3 : w1.frozen? ⟨w.heap.size, 3, none⟩ = false := by rw [Below.frozen hk (by simp)]; simp [go_sem]
  have k4 := kkeep hk (b := w.heap.size) (o := 4) (v := .bool false) (by simp [go_sem])
  have z4 : w1.frozen? ⟨w.heap.size, 4, none⟩ = false := by rw [Below.frozen hk (by simp)]; simp [go_sem]
  have k5 := kkeep hk (b := w.heap.size) (o := 5) (v := .int .i64 0) (by simp [go_sem])
  have z5 : w1.frozen? ⟨w.heap.size, 5, none⟩ = false := by rw [Below.frozen hk (by simp)]; simp [go_sem]
  have hk0 : Kp w w1 := ((Kp.refl w).alloc _).trans hk
  have hO' : Own ((((((w1.setCell ⟨w.heap.size, 0, none⟩ (.slice p1 D cc)).setCell ⟨w.heap.size, 1, none⟩ (.slice none 0 0)).setCell ⟨w.heap.size, 2, none⟩ (.int .u64 0)).setCell ⟨w.heap.size, 3, none⟩ (.int .i64 0)).setCell ⟨w.heap.size, 4, none⟩ (.bool false)).setCell ⟨w.heap.size, 5, none⟩ (.int .i64 0)) w.heap.size (.slice p1 D cc) l1 := Own.mono ((((((hO.setOther (by simp) (.slice p1 D cc)).setOther (by simp) (.slice none 0 0)).setOther (by simp) (.int .u64 0)).setOther (by simp) (.int .i64 0)).setOther (by simp) (.bool false)).setOther (by simp) (.int .i64 0)) (by simp)
  have hK' : Kp w ((((((w1.setCell ⟨w.heap.size, 0, none⟩ (.slice p1 D cc)).setCell ⟨w.heap.size, 1, none⟩ (.slice none 0 0)).setCell ⟨w.heap.size, 2, none⟩ (.int .u64 0)).setCell ⟨w.heap.size, 3, none⟩ (.int .i64 0)).setCell ⟨w.heap.size, 4, none⟩ (.bool false)).setCell ⟨w.heap.size, 5, none⟩ (.int .i64 0)) := ((((((hk0.setCell (Nat.le_refl _) (.slice p1 D cc)).setCell (Nat.le_refl _) (.slice none 0 0)).setCell (Nat.le_refl _) (.int .u64 0)).setCell (Nat.le_refl _) (.int .i64 0)).setCell (Nat.le_refl _) (.bool false)).setCell (Nat.le_refl _) (.int .i64 0))
  clear hO hk hk0
  go_wp2
  exact bodyPost_ret (v := .agg #[.slice p1 D cc, .slice none 0 0, .int .u64 0, .int .i64 0, .bool false, .int .i64 0]) (by simp [results, Tryd.results8, go_sem] <;> simp [go_sem, *]) rfl ⟨p1, cc, none, 0, by rw [HD.out], ⟨by rw [← HD.out]; exact hO', Own.nil _ _, fun g _ h => by cases h⟩, hK'⟩
set_option maxRecDepth 20000 in
set_option maxHeartbeats 1000000 in
theorem want2_word (x n : Int) : Asks2 8 2 x n F2 := by
  intro p q c d xs ys w hT hx hy hwx hwy lx ly hc hd
  obtain ⟨w0, hw0⟩ : ∃ w0, w0 = w.alloc (.cells #[.slice none 0 0, .slice none 0 0, .int .u64 0, .int .i64 0, .bool false, .int .i64 0] 32) := ⟨_, rfl⟩
  have hk00 : Kp w w0 := by rw [hw0]; exact (Kp.refl w).alloc _
  have h := (rword_ p c xs w0 (hx.grown hk00) hwx (by omega)).mono (fun e w2 (hh : _ ∧ _) => (⟨hh.1, hh.2 ▸ Kp.refl _⟩ : _ ∧ Kp w0 w2))
  obtain ⟨R, hR⟩ : ∃ R : Rs, R = F2 xs ys := ⟨_, rfl⟩
  rw [← hR]
  obtain ⟨l1, l2, Wv, Zv, Bv, Ev⟩ := R
  have r1 : l1 = _ := congrArg Rs.l1 hR
  have r2 : l2 = _ := congrArg Rs.l2 hR
  have r3 : Wv = _ := congrArg Rs.W hR
  have r4 : Zv = _ := congrArg Rs.Z hR
  have r5 : Bv = _ := congrArg Rs.B hR
  have r6 : Ev = _ := congrArg Rs.E hR
  simp only [F2] at r1 r2 r3 r4 r5 r6
  clear hR
  subst r1
  subst r2
  rw [← r3] at h
  subst r4
  rw [← r5] at h
  subst r6
  obtain ⟨N, hN⟩ : ∃ N, N = xs.length := ⟨_, rfl⟩
  obtain ⟨M, hM⟩ : ∃ M, M = ys.length := ⟨_, rfl⟩
  rw [← hN] at h
  rw [← hN, ← hM]
  rw [hw0] at h
  clear hT hx hy hwx hwy lx ly hN hM hw0 hk00 hc hd r3 r5
  go_enter Tryd.func8, Tryd.ntmps8
  go_wp2_with fail
  refine h.mono ?_; rintro e w1 ⟨rfl, hk⟩
  clear h
  have k0 := kkeep hk (b := w.heap.size) (o := 0) (v := .slice none 0 0) (by simp [go_sem])
  have z0 : w1.frozen? ⟨w.heap.size, 0, none⟩ = false := by rw [Below.frozen hk (by simp)]; simp [go_sem]
  have k1 := kkeep hk (b := w.heap.size) (o := 1) (v := .slice none 0 0) (by simp [go_sem])
  have z1 : w1.frozen? ⟨w.heap.size, 1, none⟩ = false := by rw [Below.frozen hk (by simp)]; simp [go_sem]
  have k2 := kkeep hk (b := w.heap.size) (o := 2) (v := .int .u64 0) (by simp [go_sem])
  have z2 : w1.frozen? ⟨w.heap.size, 2, none⟩ = false := by rw [Below.frozen hk (by simp)]; simp [go_sem]
  have k3 := kkeep hk (b := w.heap.size) (o := 3) (v := .int .i64 0) (by simp [go_sem])
  have z3 : w1.frozen? ⟨w.heap.size, 3, none⟩ = false := by rw [Below.frozen hk (by simp)]; simp [go_sem]
  have k4 := kkeep hk (b := w.heap.size) (o := 4) (v := .bool false) (by simp [go_sem])
  have z4 : w1.frozen? ⟨w.heap.size, 4, none⟩ = false := by rw [Below.frozen hk (by simp)]; simp [go_sem]
  have k5 := kkeep hk (b := w.heap.size) (o := 5) (v := .int .i64 0) (by simp [go_sem])
  have z5 : w1.frozen? ⟨w.heap.size, 5, none⟩ = false := by rw [Below.frozen hk (by simp)]; simp [go_sem]
  have hk0 : Kp w w1 := ((Kp.refl w).alloc _).trans hk
  have hK' : Kp w ((((((w1.setCell ⟨w.heap.size, 0, none⟩ (.slice none 0 0)).setCell ⟨w.heap.size, 1, none⟩ (.slice none 0 0)).setCell ⟨w.heap.size, 2, none⟩ (.int .u64 Wv)).setCell ⟨w.heap.size, 3, none⟩ (.int .i64 0)).setCell ⟨w.heap.size, 4, none⟩ (.bool Bv)).setCell ⟨w.heap.size, 5, none⟩ (.int .i64 0)) := ((((((hk0.setCell (Nat.le_refl _) (.slice none 0 0)).setCell (Nat.le_refl _) (.slice none 0 0)).setCell (Nat.le_refl _) (.int .u64 Wv)).setCell (Nat.le_refl _) (.int .i64 0)).setCell (Nat.le_refl _) (.bool Bv)).setCell (Nat.le_refl _) (.int .i64 0))
  clear hk hk0
  go_wp2
  exact bodyPost_ret (v := .agg #[.slice none 0 0, .slice none 0 0, .int .u64 Wv, .int .i64 0, .bool Bv, .int .i64 0]) (by simp [results, Tryd.results8, go_sem] <;> simp [go_sem, *]) rfl ⟨none, 0, none, 0, rfl, ⟨Own.nil _ _, Own.nil _ _, fun g h => by cases h⟩, hK'⟩
set_option maxRecDepth 20000 in
set_option maxHeartbeats 1000000 in
theorem want2_cmp (x n : Int) : Asks2 8 3 x n F3 := by
  intro p q c d xs ys w hT hx hy hwx hwy lx ly hc hd
  obtain ⟨w0, hw0⟩ : ∃ w0, w0 = w.alloc (.cells #[.slice none 0 0, .slice none 0 0, .int .u64 0, .int .i64 0, .bool false, .int .i64 0] 32) := ⟨_, rfl⟩
  have hk00 : Kp w w0 := by rw [hw0]; exact (Kp.refl w).alloc _
  have h := (rcmp_ p q c d xs ys w0 (hx.grown hk00) (hy.grown hk00) hwx hwy (by omega) (by omega))
  obtain ⟨R, hR⟩ : ∃ R : Rs, R = F3 xs ys := ⟨_, rfl⟩
  rw [← hR]
  obtain ⟨l1, l2, Wv, Zv, Bv, Ev⟩ := R
  have r1 : l1 = _ := congrArg Rs.l1 hR
  have r2 : l2 = _ := congrArg Rs.l2 hR
  have r3 : Wv = _ := congrArg Rs.W hR
  have r4 : Zv = _ := congrArg Rs.Z hR
  have r5 : Bv = _ := congrArg Rs.B hR
  have r6 : Ev = _ := congrArg Rs.E hR
  simp only [F3] at r1 r2 r3 r4 r5 r6
  clear hR
  subst r1
  subst r2
  subst r3
  rw [← r4] at h
  subst r5
  subst r6
  obtain ⟨N, hN⟩ : ∃ N, N = xs.length := ⟨_, rfl⟩
  obtain ⟨M, hM⟩ : ∃ M, M = ys.length := ⟨_, rfl⟩
  rw [← hN] at h
  rw [← hM] at h
  rw [← hN, ← hM]
  rw [hw0] at h
  clear hT hx hy hwx hwy lx ly hN hM hw0 hk00 hc hd r4
  go_enter Tryd.func8, Tryd.ntmps8
  go_wp2_with fail
  refine h.mono ?_; rintro e w1 ⟨rfl, hk⟩
  clear h
  have k0 := kkeep hk (b := w.heap.size) (o := 0) (v := .slice none 0 0) (by simp [go_sem])
  have z0 : w1.frozen? ⟨w.heap.size, 0, none⟩ = false := by rw [Below.frozen hk (by simp)]; simp [go_sem]
  have k1 := kkeep hk (b := w.heap.size) (o := 1) (v := .slice none 0 0) (by simp [go_sem])
  have z1 : w1.frozen? ⟨w.heap.size, 1, none⟩ = false := by rw [Below.frozen hk (by simp)]; simp [go_sem]
  have k2 := kkeep hk (b := w.heap.size) (o := 2) (v := .int .u64 0) (by simp [go_sem])
  have z2 : w1.frozen? ⟨w.heap.size, 2, none⟩ = false := by rw [Below.frozen hk (by simp)]; simp [go_sem]
  have k3 := kkeep hk (b := w.heap.size) (o := 3) (v := .int .i64 0) (by simp [go_sem])
  have z3 : w1.frozen? ⟨w.heap.size, 3, none⟩ = false := by rw [Below.frozen hk (by simp)]; simp [go_sem]
  have k4 := kkeep hk (b := w.heap.size) (o := 4) (v := .bool false) (by simp [go_sem])
  have z4 : w1.frozen? ⟨w.heap.size, 4, none⟩ = false := by rw [Below.frozen hk (by simp)]; simp [go_sem]
  have k5 := kkeep hk (b := w.heap.size) (o := 5) (v := .int .i64 0) (by simp [go_sem])
  have z5 : w1.frozen? ⟨w.heap.size, 5, none⟩ = false := by rw [Below.frozen hk (by simp)]; simp [go_sem]
  have hk0 : Kp w w1 := ((Kp.refl w).alloc _).trans hk
  have hK' : Kp w ((((((w1.setCell ⟨w.heap.size, 0, none⟩ (.slice none 0 0)).setCell ⟨w.heap.size, 1, none⟩ (.slice none 0 0)).setCell ⟨w.heap.size, 2, none⟩ (.int .u64 0)).setCell ⟨w.heap.size, 3, none⟩ (.int .i64 Zv)).setCell ⟨w.heap.size, 4, none⟩ (.bool false)).setCell ⟨w.heap.size, 5, none⟩ (.int .i64 0)) := ((((((hk0.setCell (Nat.le_refl _) (.slice none 0 0)).setCell (Nat.le_refl _) (.slice none 0 0)).setCell (Nat.le_refl _) (.int .u64 0)).setCell (Nat.le_refl _) (.int .i64 Zv)).setCell (Nat.le_refl _) (.bool false)).setCell (Nat.le_refl _) (.int .i64 0))
  clear hk hk0
  go_wp2
  exact bodyPost_ret (v := .agg #[.slice none 0 0, .slice none 0 0, .int .u64 0, .int .i64 Zv, .bool false, .int .i64 0]) (by simp [results, Tryd.results8, go_sem] <;> simp [go_sem, *]) rfl ⟨none, 0, none, 0, rfl, ⟨Own.nil _ _, Own.nil _ _, fun g h => by cases h⟩, hK'⟩
set_option maxRecDepth 20000 in
set_option maxHeartbeats 1000000 in
theorem want2_bits (x n : Int) : Asks2 8 4 x n F4 := by
  intro p q c d xs ys w hT hx hy hwx hwy lx ly hc hd
  obtain ⟨w0, hw0⟩ : ∃ w0, w0 = w.alloc (.cells #[.slice none 0 0, .slice none 0 0, .int .u64 0, .int .i64 0, .bool false, .int .i64 0] 32) := ⟨_, rfl⟩
  have hk00 : Kp w w0 := by rw [hw0]; exact (Kp.refl w).alloc _
  have h := (rlen_ p c xs w0 (hx.grown hk00) hwx (by omega)).mono (fun e w2 (hh : _ ∧ _) => (⟨hh.1, hh.2 ▸ Kp.refl _⟩ : _ ∧ Kp w0 w2))
  obtain ⟨R, hR⟩ : ∃ R : Rs, R = F4 xs ys := ⟨_, rfl⟩
  rw [← hR]
  obtain ⟨l1, l2, Wv, Zv, Bv, Ev⟩ := R
  have r1 : l1 = _ := congrArg Rs.l1 hR
  have r2 : l2 = _ := congrArg Rs.l2 hR
  have r3 : Wv = _ := congrArg Rs.W hR
  have r4 : Zv = _ := congrArg Rs.Z hR
  have r5 : Bv = _ := congrArg Rs.B hR
  have r6 : Ev = _ := congrArg Rs.E hR
  simp only [F4] at r1 r2 r3 r4 r5 r6
  clear hR
  subst r1
  subst r2
  subst r3
  rw [← r4] at h
  subst r5
  subst r6
  obtain ⟨N, hN⟩ : ∃ N, N = xs.length := ⟨_, rfl⟩
  obtain ⟨M, hM⟩ : ∃ M, M = ys.length := ⟨_, rfl⟩
  rw [← hN] at h
  rw [← hN, ← hM]
  rw [hw0] at h
  clear hT hx hy hwx hwy lx ly hN hM hw0 hk00 hc hd r4
  go_enter Tryd.func8, Tryd.ntmps8
  go_wp2_with fail
  refine h.mono ?_; rintro e w1 ⟨rfl, hk⟩
  clear h
  have k0 := kkeep hk (b := w.heap.size) (o := 0) (v := .slice none 0 0) (by simp [go_sem])
  have z0 : w1.frozen? ⟨w.heap.size, 0, none⟩ = false := by rw [Below.frozen hk (by simp)]; simp [go_sem]
  have k1 := kkeep hk (b := w.heap.size) (o := 1) (v := .slice none 0 0) (by simp [go_sem])
  have z1 : w1.frozen? ⟨w.heap.size, 1, none⟩ = false := by rw [Below.frozen hk (by simp)]; simp [go_sem]
  have k2 := kkeep hk (b := w.heap.size) (o := 2) (v := .int .u64 0) (by simp [go_sem])
  have z2 : w1.frozen? ⟨w.heap.size, 2, none⟩ = false := by rw [Below.frozen hk (by simp)]; simp [go_sem]
  have k3 := kkeep hk (b := w.heap.size) (o := 3) (v := .int .i64 0) (by simp [go_sem])
  have z3 : w1.frozen? ⟨w.heap.size, 3, none⟩ = false := by rw [Below.frozen hk (by simp)]; simp [go_sem]
  have k4 := kkeep hk (b := w.heap.size) (o := 4) (v := .bool false) (by simp [go_sem])
  have z4 : w1.frozen? ⟨w.heap.size, 4, none⟩ = false := by rw [Below.frozen hk (by simp)]; simp [go_sem]
  have k5 := kkeep hk (b := w.heap.size) (o := 5) (v := .int .i64 0) (by simp [go_sem])
  have z5 : w1.frozen? ⟨w.heap.size, 5, none⟩ = false := by rw [Below.frozen hk (by simp)]; simp [go_sem]
  have hk0 : Kp w w1 := ((Kp.refl w).alloc _).trans hk
  have hK' : Kp w ((((((w1.setCell ⟨w.heap.size, 0, none⟩ (.slice none 0 0)).setCell ⟨w.heap.size, 1, none⟩ (.slice none 0 0)).setCell ⟨w.heap.size, 2, none⟩ (.int .u64 0)).setCell ⟨w.heap.size, 3, none⟩ (.int .i64 Zv)).setCell ⟨w.heap.size, 4, none⟩ (.bool false)).setCell ⟨w.heap.size, 5, none⟩ (.int .i64 0)) := ((((((hk0.setCell (Nat.le_refl _) (.slice none 0 0)).setCell (Nat.le_refl _) (.slice none 0 0)).setCell (Nat.le_refl _) (.int .u64 0)).setCell (Nat.le_refl _) (.int .i64 Zv)).setCell (Nat.le_refl _) (.bool false)).setCell (Nat.le_refl _) (.int .i64 0))
  clear hk hk0
  go_wp2
  exact bodyPost_ret (v := .agg #[.slice none 0 0, .slice none 0 0, .int .u64 0, .int .i64 Zv, .bool false, .int .i64 0]) (by simp [results, Tryd.results8, go_sem] <;> simp [go_sem, *]) rfl ⟨none, 0, none, 0, rfl, ⟨Own.nil _ _, Own.nil _ _, fun g h => by cases h⟩, hK'⟩
set_option maxRecDepth 20000 in
set_option maxHeartbeats 1000000 in
theorem want2_zeros (x n : Int) : Asks2 8 5 x n F5 := by
  intro p q c d xs ys w hT hx hy hwx hwy lx ly hc hd
  obtain ⟨w0, hw0⟩ : ∃ w0, w0 = w.alloc (.cells #[.slice none 0 0, .slice none 0 0, .int .u64 0, .int .i64 0, .bool false, .int .i64 0] 32) := ⟨_, rfl⟩
  have hk00 : Kp w w0 := by rw [hw0]; exact (Kp.refl w).alloc _
  have h := (rzeros_ p c xs w0 (hx.grown hk00) hwx (by omega)).mono (fun e w2 (hh : _ ∧ _) => (⟨hh.1, hh.2 ▸ Kp.refl _⟩ : _ ∧ Kp w0 w2))
  obtain ⟨R, hR⟩ : ∃ R : Rs, R = F5 xs ys := ⟨_, rfl⟩
  rw [← hR]
  obtain ⟨l1, l2, Wv, Zv, Bv, Ev⟩ := R
  have r1 : l1 = _ := congrArg Rs.l1 hR
  have r2 : l2 = _ := congrArg Rs.l2 hR
  have r3 : Wv = _ := congrArg Rs.W hR
  have r4 : Zv = _ := congrArg Rs.Z hR
  have r5 : Bv = _ := congrArg Rs.B hR
  have r6 : Ev = _ := congrArg Rs.E hR
  simp only [F5] at r1 r2 r3 r4 r5 r6
  clear hR
  subst r1
  subst r2
  subst r3
  rw [← r4] at h
  subst r5
  subst r6
  obtain ⟨N, hN⟩ : ∃ N, N = xs.length := ⟨_, rfl⟩
  obtain ⟨M, hM⟩ : ∃ M, M = ys.length := ⟨_, rfl⟩
  rw [← hN] at h
  rw [← hN, ← hM]
  rw [hw0] at h
  clear hT hx hy hwx hwy lx ly hN hM hw0 hk00 hc hd r4
  go_enter Tryd.func8, Tryd.ntmps8
  go_wp2_with fail
  refine h.mono ?_; rintro e w1 ⟨rfl, hk⟩
  clear h
  have k0 := kkeep hk (b := w.heap.size) (o := 0) (v := .slice none 0 0) (by simp [go_sem])
  have z0 : w1.frozen? ⟨w.heap.size, 0, none⟩ = false := by rw [Below.frozen hk (by simp)]; simp [go_sem]
  have k1 := kkeep hk (b := w.heap.size) (o := 1) (v := .slice none 0 0) (by simp [go_sem])
  have z1 : w1.frozen? ⟨w.heap.size, 1, none⟩ = false := by rw [Below.frozen hk (by simp)]; simp [go_sem]
  have k2 := kkeep hk (b := w.heap.size) (o := 2) (v := .int .u64 0) (by simp [go_sem])
  have z2 : w1.frozen? ⟨w.heap.size, 2, none⟩ = false := by rw [Below.frozen hk (by simp)]; simp [go_sem]
  have k3 := kkeep hk (b := w.heap.size) (o := 3) (v := .int .i64 0) (by simp [go_sem])
  have z3 : w1.frozen? ⟨w.heap.size, 3, none⟩ = false := by rw [Below.frozen hk (by simp)]; simp [go_sem]
  have k4 := kkeep hk (b := w.heap.size) (o := 4) (v := .bool false) (by simp [go_sem])
  have z4 : w1.frozen? ⟨w.heap.size, 4, none⟩ = false := by rw [Below.frozen hk (by simp)]; simp [go_sem]
  have k5 := kkeep hk (b := w.heap.size) (o := 5) (v := .int .i64 0) (by simp [go_sem])
  have z5 : w1.frozen? ⟨w.heap.size, 5, none⟩ = false := by rw [Below.frozen hk (by simp)]; simp [go_sem]
  have hk0 : Kp w w1 := ((Kp.refl w).alloc _).trans hk
  have hK' : Kp w ((((((w1.setCell ⟨w.heap.size, 0, none⟩ (.slice none 0 0)).setCell ⟨w.heap.size, 1, none⟩ (.slice none 0 0)).setCell ⟨w.heap.size, 2, none⟩ (.int .u64 0)).setCell ⟨w.heap.size, 3, none⟩ (.int .i64 Zv)).setCell ⟨w.heap.size, 4, none⟩ (.bool false)).setCell ⟨w.heap.size, 5, none⟩ (.int .i64 0)) := ((((((hk0.setCell (Nat.le_refl _) (.slice none 0 0)).setCell (Nat.le_refl _) (.slice none 0 0)).setCell (Nat.le_refl _) (.int .u64 0)).setCell (Nat.le_refl _) (.int .i64 Zv)).setCell (Nat.le_refl _) (.bool false)).setCell (Nat.le_refl _) (.int .i64 0))
  clear hk hk0
  go_wp2
  exact bodyPost_ret (v := .agg #[.slice none 0 0, .slice none 0 0, .int .u64 0, .int .i64 Zv, .bool false, .int .i64 0]) (by simp [results, Tryd.results8, go_sem] <;> simp [go_sem, *]) rfl ⟨none, 0, none, 0, rfl, ⟨Own.nil _ _, Own.nil _ _, fun g h => by cases h⟩, hK'⟩
end Go.Proofs.YtjblehmafjcncaaDoor
