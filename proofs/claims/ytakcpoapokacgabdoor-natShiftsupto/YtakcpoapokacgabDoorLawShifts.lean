import Derived.Test.YtakcpoapokacgabDoorProg
import Derived.Test.YtakcpoapokacgabDoorRows
import Derived.Test.YtakcpoapokacgabDoorProg
import Derived.Test.YtakcpoapokacgabDoorA
import Derived.Test.YtakcpoapokacgabDoorA2
import Derived.Test.YtakcpoapokacgabDoorA3
import Derived.Test.YtakcpoapokacgabDoorA4
import Derived.Test.YtakcpoapokacgabDoorMN
import Derived.Test.YtakcpoapokacgabDoorMV
import Derived.Test.YtakcpoapokacgabDoorMP
import Derived.Test.YtakcpoapokacgabDoorMD
import Derived.Test.YtakcpoapokacgabDoorMS
import Derived.Test.YtakcpoapokacgabDoorMC
import Derived.Test.YtakcpoapokacgabDoorT1
import Derived.Test.YtakcpoapokacgabDoorT2
import Derived.Test.YtakcpoapokacgabDoorSM
import Derived.Test.YtakcpoapokacgabDoorA5
import Derived.Test.YtakcpoapokacgabDoorA6
import Derived.Test.YtakcpoapokacgabDoorHB
import Derived.Test.YtakcpoapokacgabDoorMM
import Derived.Test.YtakcpoapokacgabDoorMW
import Derived.Test.YtakcpoapokacgabDoorMSh
import Derived.Test.YtakcpoapokacgabDoorLN
import Derived.Test.YtakcpoapokacgabDoorQA
import Derived.Test.YtakcpoapokacgabDoorTZ
import Derived.Test.YtakcpoapokacgabDoorHB2
import Derived.Test.YtakcpoapokacgabDoorSL
import Derived.Test.YtakcpoapokacgabDoorRL
import Derived.Test.YtakcpoapokacgabDoorSR
import Derived.Test.YtakcpoapokacgabDoorRR
import Derived.Test.YtakcpoapokacgabDoorHL
import Derived.Test.YtakcpoapokacgabDoorHE2
import Derived.Test.YtakcpoapokacgabDoorCards
import Derived.Test.YtakcpoapokacgabDoorTie
import Derived.WalkKit
import Derived.ProofKit
import Derived.RowKit3
import Derived.WalkSpells
import Derived.StillTactics
import Derived.Deep.QuietTactic
import Derived.BigQuiet
import Derived.Below
import Derived.Deep.OwnRows
import Derived.OpenShut
import Derived.ChangeSlices
import Derived.Carry
import Derived.Deep.DeepHandedRow
import Derived.Deep.DeepWitnessRowRef
import Derived.Lib.LaidTab
import Derived.LaidMore
import Derived.Stop.Joined
import Derived.SevenTiedAt
import Derived.MakeChecks
import Derived.OwnWalk
namespace Go.Proofs.YtakcpoapokacgabDoor
open Go.RowKit
def F12 (n : Int) : List Int → List Int → Rs := fun xs _ => ⟨(shlN (val xs) n).1, [], 0, 0, false, (shlN (val xs) n).2⟩
def F13 (n : Int) : List Int → List Int → Rs := fun xs _ => ⟨(shrN (val xs) n).1, [], 0, 0, (shrN (val xs) n).2.1, (shrN (val xs) n).2.2⟩
set_option maxRecDepth 20000 in
set_option maxHeartbeats 400000 in
theorem asked_shl (p q : Option Addr) (c d : Nat) (xs ys : List Int) (w : World) (hx : Arr w p xs) (hy : Arr w q ys) (hwx : Wd xs) (hwy : Wd ys) (lx : xs.length < 1048577) (ly : ys.length < 1048577) (hc : xs.length ≤ c) (hd : ys.length ≤ d) (n : Int) :
    Calls Tryd.prog 35 #[.int .i64 12, .slice p xs.length c, .slice q ys.length d, .int .i64 n] w fun e w' => ∃ v, e = .returned (.tuple #[v, .int .i64 (shlN (val xs) n).2]) ∧ Own w' w.heap.size v (shlN (val xs) n).1 ∧ Kp w w' := by
  have h := (fun (_ : Arr w q ys) (_ : Wd ys) (_ : ys.length < 1048577) (_ : ys.length ≤ d) => nshl_ p c xs w n hx hwx (by omega) hc) hy hwy ly hd
  obtain ⟨N, hN⟩ : ∃ N, N = xs.length := ⟨_, rfl⟩
  obtain ⟨M, hM⟩ : ∃ M, M = ys.length := ⟨_, rfl⟩
  obtain ⟨R, hR⟩ : ∃ R, R = shlN (val xs) n := ⟨_, rfl⟩
  obtain ⟨ls, er⟩ := R
  rw [← hN, ← hR] at h
  rw [← hN, ← hM, ← hR]
  clear hx hy hwx hwy lx ly hN hM hR hc hd
  go_enter Tryd.func35, Tryd.ntmps35
  go_wp2_with fail
  refine h.mono ?_; rintro e w1 ⟨v, rfl, hO, hk⟩
  go_wp2
  exact bodyPost_ret (v := .tuple #[v, .int .i64 er]) (by simp [results, Tryd.results35, go_sem] <;> simp only [*]) rfl ⟨v, rfl, hO, hk⟩
set_option maxRecDepth 20000 in
set_option maxHeartbeats 1000000 in
theorem ask_shl (p q : Option Addr) (c d : Nat) (xs ys : List Int) (w : World) (hx : Arr w p xs) (hy : Arr w q ys) (hwx : Wd xs) (hwy : Wd ys) (lx : xs.length < 1048577) (ly : ys.length < 1048577) (hc : xs.length ≤ c) (hd : ys.length ≤ d) (x : Int) (n : Int) :
    Calls Tryd.prog 10 #[.int .i64 12, .slice p xs.length c, .slice q ys.length d, .int .u64 x, .int .i64 n] w fun e w' => ∃ v, e = .returned (.agg #[v, .slice none 0 0, .int .u64 0, .int .i64 0, .bool false, .int .i64 (shlN (val xs) n).2]) ∧ Own w' w.heap.size v (shlN (val xs) n).1 ∧ Kp w w' := by
  obtain ⟨w0, hw0⟩ : ∃ w0, w0 = w.alloc (.cells #[.slice none 0 0, .slice none 0 0, .int .u64 0, .int .i64 0, .bool false, .int .i64 0] 28) := ⟨_, rfl⟩
  have hk00 : Kp w w0 := by rw [hw0]; exact (Kp.refl w).alloc _
  have h := asked_shl p q c d xs ys w0 (hx.grown hk00) (hy.grown hk00) hwx hwy lx ly hc hd n
  obtain ⟨N, hN⟩ : ∃ N, N = xs.length := ⟨_, rfl⟩
  obtain ⟨M, hM⟩ : ∃ M, M = ys.length := ⟨_, rfl⟩
  obtain ⟨R, hR⟩ : ∃ R, R = shlN (val xs) n := ⟨_, rfl⟩
  obtain ⟨ls, er⟩ := R
  rw [← hN, ← hM, ← hR] at h
  rw [← hN, ← hM, ← hR]
  have hcd := code_ er
  rw [hw0] at h
  clear hx hy hwx hwy lx ly hN hM hR hw0 hk00 hc hd
  go_enter Tryd.func10, Tryd.ntmps10
  go_wp2_with fail
  refine h.mono ?_; rintro e w1 ⟨v, rfl, hO, hk⟩
  obtain ⟨p1, cc, rfl, _, _⟩ := hO.arr
  obtain ⟨D, hD⟩ : ∃ D, D = ls.length := ⟨_, rfl⟩
  rw [← hD] at hO ⊢
  clear h hD
  have k0 := kkeep hk (b := w.heap.size) (o := 0) (v := .slice none 0 0) (by simp [go_sem])
  have z0 : w1.frozen? ⟨w.heap.size, 0, none⟩ = false := by rw [Below.frozen hk (by simp)]; simp [go_sem]
  have k1 := kkeep hk (b := w.heap.size) (o := 1) (v := .slice none 0 0) (by simp [go_sem])
  have z1 : w1.frozen? ⟨w.heap.size, 1, none⟩ = false := by rw [Below.frozen hk (by simp)]; simp [go_sem]
  have k2 := kkeep hk (b := w.heap.size) (o := 2) (v := .int .u64 0) (by simp [go_sem])
  have z2 : w1.frozen? ⟨w.heap.size, 2, none⟩ = false := by rw [Below.frozen hk (by simp)]; simp [go_sem]
  have k3 := kkeep hk (b := w.heap.size) (o := 3) (v := .int .i64 0) (by simp [go_sem])
  have z3 : w1.frozen? ⟨w.heap.size, 3, none⟩ = false := by rw [Below.frozen hk (by simp)]; simp [go_sem]
  have k4 := kkeep hk (b := w.heap.size) (o := 4) (v := .bool false) (by simp [go_sem])
  have z4 : w1.frozen? ⟨w.heap.size, 4, none⟩ = false := by rw [Below.frozen hk (by simp)]; simp [go_sem]
  have k5 := kkeep hk (b := w.heap.size) (o := 5) (v := .int .i64 0) (by simp [go_sem])
  have z5 : w1.frozen? ⟨w.heap.size, 5, none⟩ = false := by rw [Below.frozen hk (by simp)]; simp [go_sem]
  have hk0 : Kp w w1 := ((Kp.refl w).alloc _).trans hk
  have hO' : Own ((((((w1.setCell ⟨w.heap.size, 0, none⟩ (.slice p1 D cc)).setCell ⟨w.heap.size, 1, none⟩ (.slice none 0 0)).setCell ⟨w.heap.size, 2, none⟩ (.int .u64 0)).setCell ⟨w.heap.size, 3, none⟩ (.int .i64 0)).setCell ⟨w.heap.size, 4, none⟩ (.bool false)).setCell ⟨w.heap.size, 5, none⟩ (.int .i64 er)) w.heap.size (.slice p1 D cc) ls := Own.mono ((((((hO.setOther (by simp) (.slice p1 D cc)).setOther (by simp) (.slice none 0 0)).setOther (by simp) (.int .u64 0)).setOther (by simp) (.int .i64 0)).setOther (by simp) (.bool false)).setOther (by simp) (.int .i64 er)) (by simp)
  have hK' : Kp w ((((((w1.setCell ⟨w.heap.size, 0, none⟩ (.slice p1 D cc)).setCell ⟨w.heap.size, 1, none⟩ (.slice none 0 0)).setCell ⟨w.heap.size, 2, none⟩ (.int .u64 0)).setCell ⟨w.heap.size, 3, none⟩ (.int .i64 0)).setCell ⟨w.heap.size, 4, none⟩ (.bool false)).setCell ⟨w.heap.size, 5, none⟩ (.int .i64 er)) := ((((((hk0.setCell (Nat.le_refl _) (.slice p1 D cc)).setCell (Nat.le_refl _) (.slice none 0 0)).setCell (Nat.le_refl _) (.int .u64 0)).setCell (Nat.le_refl _) (.int .i64 0)).setCell (Nat.le_refl _) (.bool false)).setCell (Nat.le_refl _) (.int .i64 er))
  clear hO hk hk0
  go_wp2_with (first | (go_at_call 32; refine (hcd _).mono ?_; rintro e w' ⟨rfl, rfl⟩))
  exact bodyPost_ret (v := .agg #[.slice p1 D cc, .slice none 0 0, .int .u64 0, .int .i64 0, .bool false, .int .i64 er]) (by simp [results, Tryd.results10, go_sem] <;> simp [go_sem, *]) rfl ⟨_, rfl, hO', hK'⟩
set_option maxRecDepth 20000 in
set_option maxHeartbeats 400000 in
theorem wanted_shl (p q : Option Addr) (c d : Nat) (xs ys : List Int) (w : World) (hx : Arr w p xs) (hy : Arr w q ys) (hwx : Wd xs) (hwy : Wd ys) (lx : xs.length < 1048577) (ly : ys.length < 1048577) (n : Int) :
    Calls Tryd.prog 24 #[.int .i64 12, .slice p xs.length c, .slice q ys.length d, .int .i64 n] w fun e w' => ∃ v, e = .returned (.tuple #[v, .int .i64 (shlN (val xs) n).2]) ∧ Own w' w.heap.size v (shlN (val xs) n).1 ∧ Kp w w' := by
  have h := (fun (_ : Arr w q ys) (_ : Wd ys) (_ : ys.length < 1048577) => rshl_ p c xs w n hx hwx (by omega)) hy hwy ly
  obtain ⟨N, hN⟩ : ∃ N, N = xs.length := ⟨_, rfl⟩
  obtain ⟨M, hM⟩ : ∃ M, M = ys.length := ⟨_, rfl⟩
  obtain ⟨R, hR⟩ : ∃ R, R = shlN (val xs) n := ⟨_, rfl⟩
  obtain ⟨ls, er⟩ := R
  rw [← hN, ← hR] at h
  rw [← hN, ← hM, ← hR]
  clear hx hy hwx hwy lx ly hN hM hR
  go_enter Tryd.func24, Tryd.ntmps24
  go_wp2_with fail
  refine h.mono ?_; rintro e w1 ⟨v, rfl, hO, hk⟩
  go_wp2
  exact bodyPost_ret (v := .tuple #[v, .int .i64 er]) (by simp [results, Tryd.results24, go_sem] <;> simp only [*]) rfl ⟨v, rfl, hO, hk⟩
set_option maxRecDepth 20000 in
set_option maxHeartbeats 1000000 in
theorem want_shl (p q : Option Addr) (c d : Nat) (xs ys : List Int) (w : World) (hx : Arr w p xs) (hy : Arr w q ys) (hwx : Wd xs) (hwy : Wd ys) (lx : xs.length < 1048577) (ly : ys.length < 1048577) (x : Int) (n : Int) :
    Calls Tryd.prog 8 #[.int .i64 12, .slice p xs.length c, .slice q ys.length d, .int .u64 x, .int .i64 n] w fun e w' => ∃ v, e = .returned (.agg #[v, .slice none 0 0, .int .u64 0, .int .i64 0, .bool false, .int .i64 (shlN (val xs) n).2]) ∧ Own w' w.heap.size v (shlN (val xs) n).1 ∧ Kp w w' := by
  obtain ⟨w0, hw0⟩ : ∃ w0, w0 = w.alloc (.cells #[.slice none 0 0, .slice none 0 0, .int .u64 0, .int .i64 0, .bool false, .int .i64 0] 28) := ⟨_, rfl⟩
  have hk00 : Kp w w0 := by rw [hw0]; exact (Kp.refl w).alloc _
  have h := wanted_shl p q c d xs ys w0 (hx.grown hk00) (hy.grown hk00) hwx hwy lx ly n
  obtain ⟨N, hN⟩ : ∃ N, N = xs.length := ⟨_, rfl⟩
  obtain ⟨M, hM⟩ : ∃ M, M = ys.length := ⟨_, rfl⟩
  obtain ⟨R, hR⟩ : ∃ R, R = shlN (val xs) n := ⟨_, rfl⟩
  obtain ⟨ls, er⟩ := R
  rw [← hN, ← hM, ← hR] at h
  rw [← hN, ← hM, ← hR]
  skip
  rw [hw0] at h
  clear hx hy hwx hwy lx ly hN hM hR hw0 hk00
  go_enter Tryd.func8, Tryd.ntmps8
  go_wp2_with fail
  refine h.mono ?_; rintro e w1 ⟨v, rfl, hO, hk⟩
  obtain ⟨p1, cc, rfl, _, _⟩ := hO.arr
  obtain ⟨D, hD⟩ : ∃ D, D = ls.length := ⟨_, rfl⟩
  rw [← hD] at hO ⊢
  clear h hD
  have k0 := kkeep hk (b := w.heap.size) (o := 0) (v := .slice none 0 0) (by simp [go_sem])
  have z0 : w1.frozen? ⟨w.heap.size, 0, none⟩ = false := by rw [Below.frozen hk (by simp)]; simp [go_sem]
  have k1 := kkeep hk (b := w.heap.size) (o := 1) (v := .slice none 0 0) (by simp [go_sem])
  have z1 : w1.frozen? ⟨w.heap.size, 1, none⟩ = false := by rw [Below.frozen hk (by simp)]; simp [go_sem]
  have k2 := kkeep hk (b := w.heap.size) (o := 2) (v := .int .u64 0) (by simp [go_sem])
  have z2 : w1.frozen? ⟨w.heap.size, 2, none⟩ = false := by rw [Below.frozen hk (by simp)]; simp [go_sem]
  have k3 := kkeep hk (b := w.heap.size) (o := 3) (v := .int .i64 0) (by simp [go_sem])
  have z3 : w1.frozen? ⟨w.heap.size, 3, none⟩ = false := by rw [Below.frozen hk (by simp)]; simp [go_sem]
  have k4 := kkeep hk (b := w.heap.size) (o := 4) (v := .bool false) (by simp [go_sem])
  have z4 : w1.frozen? ⟨w.heap.size, 4, none⟩ = false := by rw [Below.frozen hk (by simp)]; simp [go_sem]
  have k5 := kkeep hk (b := w.heap.size) (o := 5) (v := .int .i64 0) (by simp [go_sem])
  have z5 : w1.frozen? ⟨w.heap.size, 5, none⟩ = false := by rw [Below.frozen hk (by simp)]; simp [go_sem]
  have hk0 : Kp w w1 := ((Kp.refl w).alloc _).trans hk
  have hO' : Own ((((((w1.setCell ⟨w.heap.size, 0, none⟩ (.slice p1 D cc)).setCell ⟨w.heap.size, 1, none⟩ (.slice none 0 0)).setCell ⟨w.heap.size, 2, none⟩ (.int .u64 0)).setCell ⟨w.heap.size, 3, none⟩ (.int .i64 0)).setCell ⟨w.heap.size, 4, none⟩ (.bool false)).setCell ⟨w.heap.size, 5, none⟩ (.int .i64 er)) w.heap.size (.slice p1 D cc) ls := Own.mono ((((((hO.setOther (by simp) (.slice p1 D cc)).setOther (by simp) (.slice none 0 0)).setOther (by simp) (.int .u64 0)).setOther (by simp) (.int .i64 0)).setOther (by simp) (.bool false)).setOther (by simp) (.int .i64 er)) (by simp)
  have hK' : Kp w ((((((w1.setCell ⟨w.heap.size, 0, none⟩ (.slice p1 D cc)).setCell ⟨w.heap.size, 1, none⟩ (.slice none 0 0)).setCell ⟨w.heap.size, 2, none⟩ (.int .u64 0)).setCell ⟨w.heap.size, 3, none⟩ (.int .i64 0)).setCell ⟨w.heap.size, 4, none⟩ (.bool false)).setCell ⟨w.heap.size, 5, none⟩ (.int .i64 er)) := ((((((hk0.setCell (Nat.le_refl _) (.slice p1 D cc)).setCell (Nat.le_refl _) (.slice none 0 0)).setCell (Nat.le_refl _) (.int .u64 0)).setCell (Nat.le_refl _) (.int .i64 0)).setCell (Nat.le_refl _) (.bool false)).setCell (Nat.le_refl _) (.int .i64 er))
  clear hO hk hk0
  go_wp2
  exact bodyPost_ret (v := .agg #[.slice p1 D cc, .slice none 0 0, .int .u64 0, .int .i64 0, .bool false, .int .i64 er]) (by simp [results, Tryd.results8, go_sem] <;> simp [go_sem, *]) rfl ⟨_, rfl, hO', hK'⟩
set_option maxRecDepth 20000 in
set_option maxHeartbeats 1000000 in
theorem ask2_shr (x n : Int) (hn9 : n < 9223372036854775808) : Asks2 10 13 x n (F13 n) := by
  intro p q c d xs ys w hT hx hy hwx hwy lx ly hc hd
  obtain ⟨w0, hw0⟩ : ∃ w0, w0 = w.alloc (.cells #[.slice none 0 0, .slice none 0 0, .int .u64 0, .int .i64 0, .bool false, .int .i64 0] 28) := ⟨_, rfl⟩
  have hk00 : Kp w w0 := by rw [hw0]; exact (Kp.refl w).alloc _
  have h := nshr_ p c xs w0 n hn9 (hT.grown hk00) (hx.grown hk00) hwx lx hc
  obtain ⟨R, hR⟩ : ∃ R : Rs, R = F13 n xs ys := ⟨_, rfl⟩
  rw [← hR]
  obtain ⟨l1, l2, Wv, Zv, Bv, Ev⟩ := R
  have r1 : l1 = _ := congrArg Rs.l1 hR
  have r2 : l2 = _ := congrArg Rs.l2 hR
  have r3 : Wv = _ := congrArg Rs.W hR
  have r4 : Zv = _ := congrArg Rs.Z hR
  have r5 : Bv = _ := congrArg Rs.B hR
  have r6 : Ev = _ := congrArg Rs.E hR
  simp only [F13] at r1 r2 r3 r4 r5 r6
  clear hR
  rw [← r1, ← r5, ← r6] at h
  subst r2
  subst r3
  subst r4
  obtain ⟨N, hN⟩ : ∃ N, N = xs.length := ⟨_, rfl⟩
  obtain ⟨M, hM⟩ : ∃ M, M = ys.length := ⟨_, rfl⟩
  rw [← hN] at h
  rw [← hN, ← hM]
  rw [hw0] at h
  have hcd := code_ Ev
  clear hT hx hy hwx hwy lx ly hN hM hw0 hk00 hc hd r1 r5 r6 hn9
  go_enter Tryd.func10, Tryd.ntmps10
  go_wp2_with fail
  refine h.mono ?_; rintro e w1 ⟨v, rfl, hO, hk⟩
  obtain ⟨p1, cc, rfl, _, _⟩ := hO.arr
  obtain ⟨D, hD⟩ : ∃ D, D = l1.length := ⟨_, rfl⟩
  have HD : Hid (D = l1.length) := hD
  rw [← hD] at hO ⊢
  clear h hD
  have k0 := kkeep hk (b := w.heap.size) (o := 0) (v := .slice none 0 0) (by simp [go_sem])
  have z0 : w1.frozen? ⟨w.heap.size, 0, none⟩ = false := by rw [Below.frozen hk (by simp)]; simp [go_sem]
  have k1 := kkeep hk (b := w.heap.size) (o := 1) (v := .slice none 0 0) (by simp [go_sem])
  have z1 : w1.frozen? ⟨w.heap.size, 1, none⟩ = false := by rw [Below.frozen hk (by simp)]; simp [go_sem]
  have k2 := kkeep hk (b := w.heap.size) (o := 2) (v := .int .u64 0) (by simp [go_sem])
  have z2 : w1.frozen? ⟨w.heap.size, 2, none⟩ = false := by rw [Below.frozen hk (by simp)]; simp [go_sem]
  have k3 := kkeep hk (b := w.heap.size) (o := 3) (v := .int .i64 0) (by simp [go_sem])
  have z3 : w1.frozen? ⟨w.heap.size, 3, none⟩ = false := by rw [Below.frozen hk (by simp)]; simp [go_sem]
  have k4 := kkeep hk (b := w.heap.size) (o := 4) (v := .bool false) (by simp [go_sem])
  have z4 : w1.frozen? ⟨w.heap.size, 4, none⟩ = false := by rw [Below.frozen hk (by simp)]; simp [go_sem]
  have k5 := kkeep hk (b := w.heap.size) (o := 5) (v := .int .i64 0) (by simp [go_sem])
  have z5 : w1.frozen? ⟨w.heap.size, 5, none⟩ = false := by rw [Below.frozen hk (by simp)]; simp [go_sem]
  have hk0 : Kp w w1 := ((Kp.refl w).alloc _).trans hk
  have hO' : Own ((((((w1.setCell ⟨w.heap.size, 0, none⟩ (.slice p1 D cc)).setCell ⟨w.heap.size, 1, none⟩ (.slice none 0 0)).setCell ⟨w.heap.size, 2, none⟩ (.int .u64 0)).setCell ⟨w.heap.size, 3, none⟩ (.int .i64 0)).setCell ⟨w.heap.size, 4, none⟩ (.bool Bv)).setCell ⟨w.heap.size, 5, none⟩ (.int .i64 Ev)) w.heap.size (.slice p1 D cc) l1 := Own.mono ((((((hO.setOther (by simp) (.slice p1 D cc)).setOther (by simp) (.slice none 0 0)).setOther (by simp) (.int .u64 0)).setOther (by simp) (.int .i64 0)).setOther (by simp) (.bool Bv)).setOther (by simp) (.int .i64 Ev)) (by simp)
  have hK' : Kp w ((((((w1.setCell ⟨w.heap.size, 0, none⟩ (.slice p1 D cc)).setCell ⟨w.heap.size, 1, none⟩ (.slice none 0 0)).setCell ⟨w.heap.size, 2, none⟩ (.int .u64 0)).setCell ⟨w.heap.size, 3, none⟩ (.int .i64 0)).setCell ⟨w.heap.size, 4, none⟩ (.bool Bv)).setCell ⟨w.heap.size, 5, none⟩ (.int .i64 Ev)) := ((((((hk0.setCell (Nat.le_refl _) (.slice p1 D cc)).setCell (Nat.le_refl _) (.slice none 0 0)).setCell (Nat.le_refl _) (.int .u64 0)).setCell (Nat.le_refl _) (.int .i64 0)).setCell (Nat.le_refl _) (.bool Bv)).setCell (Nat.le_refl _) (.int .i64 Ev))
  clear hO hk hk0
  go_wp2_with (first | (go_at_call 32; refine (hcd _).mono ?_; rintro e w' ⟨rfl, rfl⟩))
  exact bodyPost_ret (v := .agg #[.slice p1 D cc, .slice none 0 0, .int .u64 0, .int .i64 0, .bool Bv, .int .i64 Ev]) (by simp [results, Tryd.results10, go_sem] <;> simp [go_sem, *]) rfl ⟨p1, cc, none, 0, by rw [HD.out], ⟨by rw [← HD.out]; exact hO', Own.nil _ _, fun g _ h => by cases h⟩, hK'⟩
set_option maxRecDepth 20000 in
set_option maxHeartbeats 1000000 in
theorem want2_shr (x n : Int) (hn9 : n < 9223372036854775808) : Asks2 8 13 x n (F13 n) := by
  intro p q c d xs ys w hT hx hy hwx hwy lx ly hc hd
  obtain ⟨w0, hw0⟩ : ∃ w0, w0 = w.alloc (.cells #[.slice none 0 0, .slice none 0 0, .int .u64 0, .int .i64 0, .bool false, .int .i64 0] 28) := ⟨_, rfl⟩
  have hk00 : Kp w w0 := by rw [hw0]; exact (Kp.refl w).alloc _
  have h := rshr_ p c xs w0 n hn9 (hx.grown hk00) hwx lx
  obtain ⟨R, hR⟩ : ∃ R : Rs, R = F13 n xs ys := ⟨_, rfl⟩
  rw [← hR]
  obtain ⟨l1, l2, Wv, Zv, Bv, Ev⟩ := R
  have r1 : l1 = _ := congrArg Rs.l1 hR
  have r2 : l2 = _ := congrArg Rs.l2 hR
  have r3 : Wv = _ := congrArg Rs.W hR
  have r4 : Zv = _ := congrArg Rs.Z hR
  have r5 : Bv = _ := congrArg Rs.B hR
  have r6 : Ev = _ := congrArg Rs.E hR
  simp only [F13] at r1 r2 r3 r4 r5 r6
  clear hR
  rw [← r1, ← r5, ← r6] at h
  subst r2
  subst r3
  subst r4
  obtain ⟨N, hN⟩ : ∃ N, N = xs.length := ⟨_, rfl⟩
  obtain ⟨M, hM⟩ : ∃ M, M = ys.length := ⟨_, rfl⟩
  rw [← hN] at h
  rw [← hN, ← hM]
  rw [hw0] at h
  skip
  clear hT hx hy hwx hwy lx ly hN hM hw0 hk00 hc hd r1 r5 r6 hn9
  go_enter Tryd.func8, Tryd.ntmps8
  go_wp2_with fail
  refine h.mono ?_; rintro e w1 ⟨v, rfl, hO, hk⟩
  obtain ⟨p1, cc, rfl, _, _⟩ := hO.arr
  obtain ⟨D, hD⟩ : ∃ D, D = l1.length := ⟨_, rfl⟩
  have HD : Hid (D = l1.length) := hD
  rw [← hD] at hO ⊢
  clear h hD
  have k0 := kkeep hk (b := w.heap.size) (o := 0) (v := .slice none 0 0) (by simp [go_sem])
  have z0 : w1.frozen? ⟨w.heap.size, 0, none⟩ = false := by rw [Below.frozen hk (by simp)]; simp [go_sem]
  have k1 := kkeep hk (b := w.heap.size) (o := 1) (v := .slice none 0 0) (by simp [go_sem])
  have z1 : w1.frozen? ⟨w.heap.size, 1, none⟩ = false := by rw [Below.frozen hk (by simp)]; simp [go_sem]
  have k2 := kkeep hk (b := w.heap.size) (o := 2) (v := .int .u64 0) (by simp [go_sem])
  have z2 : w1.frozen? ⟨w.heap.size, 2, none⟩ = false := by rw [Below.frozen hk (by simp)]; simp [go_sem]
  have k3 := kkeep hk (b := w.heap.size) (o := 3) (v := .int .i64 0) (by simp [go_sem])
  have z3 : w1.frozen? ⟨w.heap.size, 3, none⟩ = false := by rw [Below.frozen hk (by simp)]; simp [go_sem]
  have k4 := kkeep hk (b := w.heap.size) (o := 4) (v := .bool false) (by simp [go_sem])
  have z4 : w1.frozen? ⟨w.heap.size, 4, none⟩ = false := by rw [Below.frozen hk (by simp)]; simp [go_sem]
  have k5 := kkeep hk (b := w.heap.size) (o := 5) (v := .int .i64 0) (by simp [go_sem])
  have z5 : w1.frozen? ⟨w.heap.size, 5, none⟩ = false := by rw [Below.frozen hk (by simp)]; simp [go_sem]
  have hk0 : Kp w w1 := ((Kp.refl w).alloc _).trans hk
  have hO' : Own ((((((w1.setCell ⟨w.heap.size, 0, none⟩ (.slice p1 D cc)).setCell ⟨w.heap.size, 1, none⟩ (.slice none 0 0)).setCell ⟨w.heap.size, 2, none⟩ (.int .u64 0)).setCell ⟨w.heap.size, 3, none⟩ (.int .i64 0)).setCell ⟨w.heap.size, 4, none⟩ (.bool Bv)).setCell ⟨w.heap.size, 5, none⟩ (.int .i64 Ev)) w.heap.size (.slice p1 D cc) l1 := Own.mono ((((((hO.setOther (by simp) (.slice p1 D cc)).setOther (by simp) (.slice none 0 0)).setOther (by simp) (.int .u64 0)).setOther (by simp) (.int .i64 0)).setOther (by simp) (.bool Bv)).setOther (by simp) (.int .i64 Ev)) (by simp)
  have hK' : Kp w ((((((w1.setCell ⟨w.heap.size, 0, none⟩ (.slice p1 D cc)).setCell ⟨w.heap.size, 1, none⟩ (.slice none 0 0)).setCell ⟨w.heap.size, 2, none⟩ (.int .u64 0)).setCell ⟨w.heap.size, 3, none⟩ (.int .i64 0)).setCell ⟨w.heap.size, 4, none⟩ (.bool Bv)).setCell ⟨w.heap.size, 5, none⟩ (.int .i64 Ev)) := ((((((hk0.setCell (Nat.le_refl _) (.slice p1 D cc)).setCell (Nat.le_refl _) (.slice none 0 0)).setCell (Nat.le_refl _) (.int .u64 0)).setCell (Nat.le_refl _) (.int .i64 0)).setCell (Nat.le_refl _) (.bool Bv)).setCell (Nat.le_refl _) (.int .i64 Ev))
  clear hO hk hk0
  go_wp2
  exact bodyPost_ret (v := .agg #[.slice p1 D cc, .slice none 0 0, .int .u64 0, .int .i64 0, .bool Bv, .int .i64 Ev]) (by simp [results, Tryd.results8, go_sem] <;> simp [go_sem, *]) rfl ⟨p1, cc, none, 0, by rw [HD.out], ⟨by rw [← HD.out]; exact hO', Own.nil _ _, fun g _ h => by cases h⟩, hK'⟩
theorem shl_len (a k K : Nat) (h0 : a ≠ 0) (h : blen a + k ≤ 32 * K) : len32 (a * 2 ^ k) ≤ K := by
  have h5 := (blen_spec a h0).2.1
  have h6 : a * 2 ^ k < 2 ^ blen a * 2 ^ k := Nat.mul_lt_mul_of_pos_right h5 (Nat.two_pow_pos _)
  rw [← Nat.pow_add] at h6
  have h7 : 2 ^ (blen a + k) ≤ 2 ^ (32 * K) := Nat.pow_le_pow_right (by omega) h
  rw [← pow32] at h7
  by_cases c : len32 (a * 2 ^ k) ≤ K
  · exact c
  · have := len32_lt (a * 2 ^ k) K (by omega)
    omega
theorem shlN_len (a : Nat) (n : Int) : (shlN a n).1.length ≤ 16384 := by
  unfold shlN
  split
  · simp
  · split
    · simp
    · split
      · simp
      · split
        · simp
        · next h1 h2 h3 h4 => exact shl_len a n.toNat 16384 h3 (by omega)
theorem shrN_len (a : Nat) (n : Int) : (shrN a n).1.length ≤ 16384 := by
  unfold shrN
  split
  · simp
  · split
    · simp
    · next h1 h2 =>
      show (dig (a / 2 ^ n.toNat)).length ≤ 16384
      have e : (dig (a / 2 ^ n.toNat)).length = len32 (a / 2 ^ n.toNat) := rfl
      have := len32_mono (Nat.div_le_self a (2 ^ n.toNat))
      omega
theorem ask2_shl (x n : Int) : Asks2 10 12 x n (F12 n) := by
  intro p q c d xs ys w _ hx hy hwx hwy lx ly hc hd
  exact (ask_shl p q c d xs ys w hx hy hwx hwy (by omega) (by omega) hc hd x n).mono (fun e w' ⟨v, h1, h2, h3⟩ => by
    obtain ⟨p1, cc, rfl, _, _⟩ := h2.arr
    exact ⟨p1, cc, none, 0, h1, ⟨h2, Own.nil _ _, fun g _ h => by cases h⟩, h3⟩)
theorem want2_shl (x n : Int) : Asks2 8 12 x n (F12 n) := by
  intro p q c d xs ys w _ hx hy hwx hwy lx ly _ _
  exact (want_shl p q c d xs ys w hx hy hwx hwy (by omega) (by omega) x n).mono (fun e w' ⟨v, h1, h2, h3⟩ => by
    obtain ⟨p1, cc, rfl, _, _⟩ := h2.arr
    exact ⟨p1, cc, none, 0, h1, ⟨h2, Own.nil _ _, fun g _ h => by cases h⟩, h3⟩)
set_option maxRecDepth 20000 in
set_option maxHeartbeats 400000 in
theorem shifts_ (p : Option Addr) (c : Nat) (xs : List Int) (n : Int) (hn9 : n < 9223372036854775808) (w : World) (hT : Tab w) (hx : Arr w p xs) (hwx : Wd xs) (lx : xs.length ≤ 1048576) :
    Calls Tryd.prog 4 #[.slice p xs.length c, .int .i64 n] w fun e w' => e = .returned (.bool true) ∧ Kp w w' := by
  have h := held2_ 12 0 n (F12 n) (ask2_shl 0 n) (want2_shl 0 n) p none c 0 xs [] w hT hx (Or.inl rfl) hwx Wd.nil lx (by simp) (fun us vs _ _ => ⟨Nat.le_trans (shlN_len _ _) (by decide), by simp [F12]⟩)
  have g := fun w' (k : Kp w w') => held2_ 13 0 n (F13 n) (ask2_shr 0 n hn9) (want2_shr 0 n hn9) p none c 0 xs [] w' (hT.grown k) (hx.grown k) (Or.inl rfl) hwx Wd.nil lx (by simp) (fun us vs _ _ => ⟨Nat.le_trans (shrN_len _ _) (by decide), by simp [F13]⟩)
  have h' : Calls Tryd.prog 5 #[.int .i64 12, .slice p xs.length c, .slice none 0 0, .int .u64 0, .int .i64 n] w fun e w' => e = .returned (.bool true) ∧ Kp w w' := h
  have g' : ∀ w', Kp w w' → Calls Tryd.prog 5 #[.int .i64 13, .slice p xs.length c, .slice none 0 0, .int .u64 0, .int .i64 n] w' fun e w'' => e = .returned (.bool true) ∧ Kp w' w'' := g
  obtain ⟨N, hN⟩ : ∃ N, N = xs.length := ⟨_, rfl⟩
  rw [← hN] at h' g' ⊢
  clear hx hwx lx hN h g hT hn9
  go_enter Tryd.func4, Tryd.ntmps4
  go_wp2_with fail
  refine h'.mono ?_; rintro e w1 ⟨rfl, hk⟩
  have g2 := g' w1 hk
  clear h' g'
  go_wp2_with fail
  refine g2.mono ?_; rintro e w2 ⟨rfl, hk2⟩
  have hk3 := hk.trans hk2
  clear g2 hk hk2
  go_wp2
  exact bodyPost_ret (v := .bool true) (by simp [results, Tryd.results4, go_sem] <;> simp only [*]) rfl ⟨rfl, hk3⟩

namespace natShifts
open Go.ChangeShapes Go.WideShapes Go.ChangeAt Go.RowKit
theorem own : ownKnob Tryd.prog.godebug = none := by kernel_rfl
theorem gTab : Tryd.prog.globalNamed "math/bits.deBruijn32tab" = some 0 := by kernel_rfl
theorem tabEq : (Rows.laid_math_bits_deBruijn32tab : DataW Unit) = Lib.tabData .u8 tabL := rfl
theorem tab_of_laid {W : World} (h : laidMetH Tryd.prog Rows.natShiftsUptoRow.laid W) : Tab W := by
  have h0 : laidMetH Tryd.prog [("math/bits.deBruijn32tab", Rows.laid_math_bits_deBruijn32tab)] W := h
  rw [MakeChecks.laidMetH_plain _ _ _ (by kernel_rfl), tabEq] at h0
  have ht := Lib.tabIs_of_head (t := 81) (e := 5) (n := 32) gTab (by kernel_rfl) (by kernel_rfl) (by kernel_rfl) (by kernel_rfl) (by kernel_rfl) h0
  exact fun i hi => ht.cell gTab i (by simpa [tabL] using hi)
theorem laidOut : laidOutB Tryd.prog = true := by kernel_rfl
theorem cells25 : Tryd.prog.cellsOf 37 = 1 := by kernel_rfl
theorem bulk_len {H : Type} (l : List (DataW H)) : l.length ≤ Rows.uptoBulkAll l := by
  induction l with
  | nil => simp [Rows.uptoBulkAll]
  | cons x r ih =>
    have h1 : 1 ≤ Rows.uptoBulk x := by cases x <;> first | (simp [Rows.uptoBulk]; done) | (rename_i l; cases l <;> simp [Rows.uptoBulk])
    simp only [Rows.uptoBulkAll, List.length_cons]
    omega
theorem opened {H : Type} {enc : TypeId × Value → H} {W : World} {base : Nat} {v : Value} {d : DataW H} {ps : List MemPlace} (hv : Value.okWide Tryd.prog W .any base 22 v) (h : DataW.Trod enc Tryd.prog W 0 (fun _ => true) true 22 v d ps) (hb : Rows.uptoBulk d ≤ 1048576) :
    ∃ p cap xs, v = .slice p xs.length cap ∧ Arr W p xs ∧ Wd xs ∧ xs.length ≤ 1048576 := by
  obtain ⟨a0, len, cap, rfl⟩ := okWide_slice Tryd.underlying22 hv
  obtain ⟨fuel, hf⟩ := h
  rcases open_ints Tryd.underlying22 Tryd.underlying37 cells25 hf with ⟨hcs, hx⟩ | ⟨a, len', cap', zs, hcs, _, hl, hm, hz, hx, hcell, hwz⟩
  · simp [Value.cells] at hcs
    obtain ⟨rfl, rfl, rfl⟩ := hcs
    exact ⟨none, 0, [], rfl, Or.inl rfl, Wd.nil, by simp⟩
  · simp [Value.cells] at hcs
    obtain ⟨rfl, rfl, rfl⟩ := hcs
    simp only [Prod.mk.injEq] at hx
    obtain ⟨rfl, rfl⟩ := hx
    simp only [if_true] at hz
    have hlen : (zs.take len).length = len := by rw [List.length_take]; omega
    have hle : len ≤ 1048576 := by
      have h1 := bulk_len (lits (H := H) .u32 (zs.take len))
      have h2 : (lits (H := H) .u32 (zs.take len)).length = len := by simp [lits]; omega
      simp only [Rows.uptoBulk] at hb
      omega
    refine ⟨some a, cap, zs.take len, by rw [hlen], ?_, ?_, by omega⟩
    · by_cases c : len = 0
      · left; subst c; simp
      · right
        obtain ⟨b, off, rfl, hc⟩ := ints_at hcell (by omega)
        refine ⟨b, off, rfl, fun j hj => ?_⟩
        have hj' : j < len := by omega
        rw [hc j (by omega)]
        simp [List.getD, hj']
    · intro j
      have e1 : IntKind.u32.min = 0 := rfl
      have e2 : IntKind.u32.max = 4294967295 := rfl
      by_cases c : j < (zs.take len).length
      · have hmem : (zs.take len).getD j 0 ∈ zs := by
          have : (zs.take len).getD j 0 = (zs.take len)[j] := by rw [List.getD, List.getElem?_eq_getElem c]; rfl
          rw [this]; exact List.mem_of_mem_take (List.getElem_mem c)
        obtain ⟨z, hzz⟩ : ∃ z, z = (zs.take len).getD j 0 := ⟨_, rfl⟩
        rw [← hzz] at hmem ⊢
        have h5 := hwz _ hmem
        simp [Lit.wf, e1, e2] at h5
        omega
      · have : (zs.take len).getD j 0 = 0 := by
          rw [List.getD, List.getElem?_eq_none (by omega)]; rfl
        omega
theorem contract (H : Type) (enc : TypeId × Value → H) (W : World) (base : Nat) (args : Array Value) (ds gs : List (DataW H)) (before : List MemPlace)
    (hval : ∀ (j : Nat) t v, Tryd.f4.params[j]? = some t → args[j]? = some v → Value.okWide Tryd.prog W .any base t v)
    (hW : DataW.Whole enc Tryd.prog Tryd.f4.params.toList Rows.natShiftsSpec.vars false W args.toList ds gs before) (hL : Tab W) (hk : Rows.uptoSmall H (ds ++ gs) = true) :
    Calls Tryd.prog 4 args W fun e W' => ∃ v, e = .returned v ∧ Rows.natShiftsSpec.post enc Tryd.prog Tryd.f4 false true false false W args v W' := by
  have hW' := hW
  obtain ⟨p, q, hA0, hV, rfl, hfz, hnd⟩ := hW
  have hA : DataW.TrodAll enc Tryd.prog W 0 (fun _ => true) true Tryd.f4.params.toList args.toList ds p := hA0
  rw [Tryd.params4] at hA hval
  obtain ⟨v0, vs0, d0, ds0, p0, q0, hargs, rfl, rfl, h0, r0⟩ := trodAll_cons hA
  obtain ⟨v1, vs1, d1, ds1, p1, q1, rfl, rfl, rfl, h1, r1⟩ := trodAll_cons r0
  obtain ⟨rfl, rfl, rfl⟩ := trodAll_nil r1
  obtain rfl : args = #[v0, v1] := by cases args; simp_all
  obtain ⟨rfl, rfl⟩ := trodVars_none hV
  clear hA0
  simp only [List.append_nil] at hW' hk
  have hb : Rows.uptoBulkAll [d0, d1] ≤ 1048576 := of_decide_eq_true hk
  simp only [Rows.uptoBulkAll] at hb
  have hlt : ∀ x ∈ p0 ++ p1, x.block < W.heap.size := fun x hx => by simpa using hW'.lt x (by simpa using hx)
  have ha0 : ∀ (W' : World), Below W.heap.size W W' → DataW.Trod enc Tryd.prog W' 0 (fun b => decide (b < W.heap.size)) true 22 v0 d0 p0 :=
    fun W' hn => Below.trod laidOut (by kernel_rfl) (of_decide_eq_true (by kernel_rfl)) h0 hn (fun x hx => hlt x (List.mem_append_left _ hx))
  have ha1 : ∀ (W' : World), Below W.heap.size W W' → DataW.Trod enc Tryd.prog W' 0 (fun b => decide (b < W.heap.size)) true 3 v1 d1 p1 :=
    fun W' hn => Below.trod laidOut (by kernel_rfl) (of_decide_eq_true (by kernel_rfl)) h1 hn (fun x hx => hlt x (List.mem_append_right _ hx))
  obtain ⟨pa, ca, xs, rfl, hx, hwx, lx⟩ := opened (hval 0 22 v0 rfl rfl) h0 (by omega)
  obtain ⟨z, rfl, rfl, rfl, hwz⟩ := open_int Tryd.underlying3 (hval 1 3 v1 rfl rfl) h1
  have hz0 : z < 9223372036854775808 := by
    have e1 : IntKind.i64.min = -9223372036854775808 := rfl
    have e2 : IntKind.i64.max = 9223372036854775807 := rfl
    simp [Lit.wf, e1, e2] at hwz
    omega
  refine (shifts_ pa ca xs z hz0 W hL hx hwx lx).mono fun e W' ⟨he, hnx⟩ => ?_
  subst he
  refine ⟨_, rfl, _, _, _, [], _, [], hW', ?_, trodAll_cons_mk (ha0 _ hnx) (trodAll_cons_mk (ha1 _ hnx) trodAll_mk0), rfl, Below.frame hnx _, fun h => by cases h⟩
  exact trodAll_cons_mk (shut_bool Tryd.underlying4 _) trodAll_mk0
theorem laid_met (os : Os) : laidMet Tryd.prog Rows.natShiftsUptoRow.laid ((World.doorLaid Tryd.prog 14 os).forCall (fun _ _ => 0) ⟨#[], #[.slice none 0 0, .int .i64 0], []⟩).memory :=
  laidMet_of_run' 8 (by kernel_rfl) (by kernel_rfl)
theorem reads (os : Os) {H : Type} (enc : TypeId × Value → H) : ∃ places, DataW.whole enc Tryd.prog ((World.doorLaid Tryd.prog 14 os).forCall (fun _ _ => 0) ⟨#[], #[.slice none 0 0, .int .i64 0], []⟩).memory Tryd.f4.params.toList Rows.natShiftsSpec.vars false #[Value.slice none 0 0, .int .i64 0].toList 8 = some ([.nil, .lit (.int .i64 0)], [], places) :=
  ⟨[], by kernel_rfl⟩
set_option maxRecDepth 100000 in
theorem liftedUpto (os : Os) (started : os.Started) (H : Type) (enc : TypeId × Value → H) (F : Stop.Interp) :
    ReturnsInHanded {} Tryd.checked os 4 .any ((Rows.OpenSpec.upto Rows.natShiftsSpec).preRow enc Tryd.prog Tryd.f4 Rows.natShiftsUptoRow.domain false Rows.natShiftsUptoRow.laid) (((Rows.OpenSpec.upto Rows.natShiftsSpec).at F).post enc Tryd.prog Tryd.f4 false true false false) := by
  obtain ⟨places, hx⟩ := reads os enc
  refine returnsInHanded_of_row (C := Tryd.checked) (s := Rows.OpenSpec.upto Rows.natShiftsSpec) own started (by kernel_rfl) Tryd.func4
    (witness_row_atRef (enc := enc) (C := Tryd.checked) false (World.doorLaid Tryd.prog 14 os) #[.slice none 0 0, .int .i64 0] rfl (by kernel_rfl) (by kernel_rfl) (by kernel_rfl)
      (OpenSpec.preRow_of_cond 8 hx (by kernel_rfl) (fun k hk => by cases hk; kernel_rfl) (by kernel_rfl) (laid_met os))) ?_
  intro W base args ds gs before hval hW c1 c2 c3 hl _ _
  first | exact contract H enc W base args ds gs before hval hW (tab_of_laid hl) (c1 _ rfl) | exact contract H enc W base args ds gs before hval hW (tab_of_laid hl) (c2 _ rfl) | exact contract H enc W base args ds gs before hval hW (tab_of_laid hl) (c3 _ rfl)
theorem saidUpto : Rows.NatShiftsUptoSaid :=
  OpenClaim.holds_of_cond 4 Tryd.f4 rfl rfl rfl rfl rfl rfl rfl ⟨rfl, rfl, rfl, rfl, rfl⟩ rfl rfl rfl rfl rfl (by kernel_rfl) Tryd.func4 (by kernel_rfl)
    (of_decide_eq_true (by kernel_rfl)) (by unfold Func.isWrapper; first | (rw [if_pos (by decide +kernel)]; kernel_rfl) | (rw [if_neg (by decide +kernel)]; exact ⟨rfl, rfl⟩))
    (fun os started H enc _ F => by rw [OpenClaim.pre_eq_preRow]; exact liftedUpto os started H enc F)
theorem plain (f : FuncId) (fn : Func) (hf : Tryd.pinned.checked.prog.funcNamed "verge/vergelaw2.NatShifts" = some f) (hfn : Tryd.pinned.checked.prog.funcs[f]? = some fn) :
    false = Tryd.pinned.checked.prog.looks [] ∧ ∀ (j : Nat) t, fn.params[j]? = some t → Tryd.pinned.checked.prog.wantsStandIn t = false := by
  obtain rfl : f = 4 := Option.some.inj ((show Tryd.prog.funcNamed "verge/vergelaw2.NatShifts" = some 4 by kernel_rfl).symm.trans hf) |>.symm
  obtain rfl : fn = Tryd.f4 := (Option.some.inj (Tryd.func4.symm.trans hfn)).symm
  refine ⟨by kernel_rfl, fun j t ht => ?_⟩
  rw [Tryd.params4] at ht
  have h : t = 22 ∨ t = 3 := by simpa using Array.mem_of_getElem? ht
  rcases h with rfl | rfl
  · exact (show Tryd.prog.wantsStandIn 22 = false by kernel_rfl)
  · exact (show Tryd.prog.wantsStandIn 3 = false by kernel_rfl)
end natShifts
theorem natShifts_holds : Rows.NatShiftsUptoCardSaid :=
  Claim7.holds_tied_plain_at .later [] _ _ _ _ natShifts.saidUpto (fun _ h => by cases h) (by kernel_rfl) (fun _ h => by cases h) natShiftsUpto_row_tie rfl ⟨rfl, rfl⟩ (by kernel_rfl) rfl natShifts.plain (by kernel_rfl)
end Go.Proofs.YtakcpoapokacgabDoor
