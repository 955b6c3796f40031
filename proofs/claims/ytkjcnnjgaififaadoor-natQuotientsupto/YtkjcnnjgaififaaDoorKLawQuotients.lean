import Derived.Test.YtkjcnnjgaififaaDoorProg
import Derived.Test.YtkjcnnjgaififaaDoorRows
import Derived.Test.YtkjcnnjgaififaaDoorKA
import Derived.Test.YtkjcnnjgaififaaDoorKA2
import Derived.Test.YtkjcnnjgaififaaDoorKA3
import Derived.Test.YtkjcnnjgaififaaDoorKA4
import Derived.Test.YtkjcnnjgaififaaDoorKXM
import Derived.Test.YtkjcnnjgaififaaDoorKXT
import Derived.Test.YtkjcnnjgaififaaDoorKA5
import Derived.Test.YtkjcnnjgaififaaDoorKAT
import Derived.Test.YtkjcnnjgaififaaDoorKLB
import Derived.Test.YtkjcnnjgaififaaDoorKLN
import Derived.Test.YtkjcnnjgaififaaDoorKPR
import Derived.Test.YtkjcnnjgaififaaDoorKSL
import Derived.Test.YtkjcnnjgaififaaDoorKSR
import Derived.Test.YtkjcnnjgaififaaDoorKNF
import Derived.Test.YtkjcnnjgaififaaDoorKXQ
import Derived.Test.YtkjcnnjgaififaaDoorKTO
import Derived.Test.YtkjcnnjgaififaaDoorKHB
import Derived.Test.YtkjcnnjgaififaaDoorKZE
import Derived.Test.YtkjcnnjgaififaaDoorKTZ
import Derived.Test.YtkjcnnjgaififaaDoorKA6
import Derived.Test.YtkjcnnjgaififaaDoorKXA
import Derived.Test.YtkjcnnjgaififaaDoorKHE
import Derived.Test.YtkjcnnjgaififaaDoorKBW
import Derived.Test.YtkjcnnjgaififaaDoorKNQ
import Derived.Test.YtkjcnnjgaififaaDoorKRQ
import Derived.Test.YtkjcnnjgaififaaDoorKQA
import Derived.Test.YtkjcnnjgaififaaDoorCards
import Derived.Test.YtkjcnnjgaififaaDoorTie
import Derived.WalkKit
import Derived.ProofKit
import Derived.RowKit3
import Derived.WalkSpells
import Derived.StillTactics
import Derived.Deep.QuietTactic
import Derived.BigQuiet
import Derived.Below
import Derived.Deep.OwnRows
import Derived.OpenShut
import Derived.ChangeSlices
import Derived.Carry
import Derived.Deep.DeepHandedRow
import Derived.Deep.DeepWitnessRowRef
import Derived.Lib.LaidTab
import Derived.LaidMore
import Derived.Stop.Joined
import Derived.SevenTiedAt
import Derived.MakeChecks
import Derived.OwnWalk
namespace Go.Proofs.YtkjcnnjgaififaaDoor
open Go.RowKit

def F9 (xs ys : List Int) : Rs := ⟨(quoN (val xs) (val ys)).1, (quoN (val xs) (val ys)).2.1, 0, 0, false, (quoN (val xs) (val ys)).2.2⟩
theorem quoN_len (a b : Nat) : (quoN a b).1.length ≤ 16384 ∧ (quoN a b).2.1.length ≤ 16384 := by
  unfold quoN
  split
  · simp
  · split
    · simp
    · next h1 h2 =>
      have e1 : (dig (a / b)).length = len32 (a / b) := rfl
      have e2 : (dig (a % b)).length = len32 (a % b) := rfl
      have e3 := len32_mono (Nat.div_le_self a b)
      have e4 := len32_mono (Nat.mod_le a b)
      exact ⟨by show (dig (a / b)).length ≤ 16384; omega, by show (dig (a % b)).length ≤ 16384; omega⟩
set_option maxRecDepth 20000 in
set_option maxHeartbeats 1000000 in
theorem asks_quo (x n : Int) : Asks 27 9 x n F9 := by
  intro p q c d xs ys w hx hy hwx hwy lx ly hc hd
  obtain ⟨w0, hw0⟩ : ∃ w0, w0 = w.alloc (.cells #[.slice none 0 0, .slice none 0 0, .int .u64 0, .int .i64 0, .bool false, .int .i64 0] 52) := ⟨_, rfl⟩
  have hk00 : Kp w w0 := by rw [hw0]; exact (Kp.refl w).alloc _
  have h := nquo_ p q c d xs ys w0 (hx.grown hk00) (hy.grown hk00) hwx hwy lx ly hc hd
  obtain ⟨R, hR⟩ : ∃ R : Rs, R = F9 xs ys := ⟨_, rfl⟩
  rw [← hR]
  obtain ⟨l1, l2, Wv, Zv, Bv, Ev⟩ := R
  have r1 : l1 = _ := congrArg Rs.l1 hR
  have r2 : l2 = _ := congrArg Rs.l2 hR
  have r3 : Wv = _ := congrArg Rs.W hR
  have r4 : Zv = _ := congrArg Rs.Z hR
  have r5 : Bv = _ := congrArg Rs.B hR
  have r6 : Ev = _ := congrArg Rs.E hR
  simp only [F9] at r1 r2 r3 r4 r5 r6
  clear hR
  rw [← r1, ← r2, ← r6] at h
  subst r3
  subst r4
  subst r5
  obtain ⟨N, hN⟩ : ∃ N, N = xs.length := ⟨_, rfl⟩
  obtain ⟨M, hM⟩ : ∃ M, M = ys.length := ⟨_, rfl⟩
  rw [← hN, ← hM] at h
  rw [← hN, ← hM]
  rw [hw0] at h
  have hcd := code_ Ev
  clear hx hy hwx hwy lx ly hN hM hw0 hk00 hc hd r1 r2 r6
  go_enter Tryd.func27, Tryd.ntmps27
  go_wp2_with fail
  refine h.mono ?_; rintro e w1 ⟨⟨p1, cc, p2, cc2, rfl, hO, hO2, hne⟩, hk⟩
  obtain ⟨D, hD⟩ : ∃ D, D = l1.length := ⟨_, rfl⟩
  obtain ⟨D2, hD2⟩ : ∃ D2, D2 = l2.length := ⟨_, rfl⟩
  have HD : Hid (D = l1.length ∧ D2 = l2.length ∧ ∀ g, p1 = some ⟨g, 0, none⟩ → p2 ≠ some ⟨g, 0, none⟩) := ⟨hD, hD2, hne⟩
  rw [← hD] at hO ⊢
  rw [← hD2] at hO2 ⊢
  clear h hD hD2 hne
  have k0 := kkeep hk (b := w.heap.size) (o := 0) (v := .slice none 0 0) (by simp [go_sem])
  have z0 : w1.frozen? ⟨w.heap.size, 0, none⟩ = false := by rw [Below.frozen hk (by simp)]; simp [go_sem]
  have k1 := kkeep hk (b := w.heap.size) (o := 1) (v := .slice none 0 0) (by simp [go_sem])
  have z1 : w1.frozen? ⟨w.heap.size, 1, none⟩ = false := by rw [Below.frozen hk (by simp)]; simp [go_sem]
  have k2 := kkeep hk (b := w.heap.size) (o := 2) (v := .int .u64 0) (by simp [go_sem])
  have z2 : w1.frozen? ⟨w.heap.size, 2, none⟩ = false := by rw [Below.frozen hk (by simp)]; simp [go_sem]
  have k3 := kkeep hk (b := w.heap.size) (o := 3) (v := .int .i64 0) (by simp [go_sem])
  have z3 : w1.frozen? ⟨w.heap.size, 3, none⟩ = false := by rw [Below.frozen hk (by simp)]; simp [go_sem]
  have k4 := kkeep hk (b := w.heap.size) (o := 4) (v := .bool false) (by simp [go_sem])
  have z4 : w1.frozen? ⟨w.heap.size, 4, none⟩ = false := by rw [Below.frozen hk (by simp)]; simp [go_sem]
  have k5 := kkeep hk (b := w.heap.size) (o := 5) (v := .int .i64 0) (by simp [go_sem])
  have z5 : w1.frozen? ⟨w.heap.size, 5, none⟩ = false := by rw [Below.frozen hk (by simp)]; simp [go_sem]
  have hk0 : Kp w w1 := ((Kp.refl w).alloc _).trans hk
  have hO' : Own ((((((w1.setCell ⟨w.heap.size, 0, none⟩ (.slice p1 D cc)).setCell ⟨w.heap.size, 1, none⟩ (.slice p2 D2 cc2)).setCell ⟨w.heap.size, 2, none⟩ (.int .u64 0)).setCell ⟨w.heap.size, 3, none⟩ (.int .i64 0)).setCell ⟨w.heap.size, 4, none⟩ (.bool false)).setCell ⟨w.heap.size, 5, none⟩ (.int .i64 Ev)) w.heap.size (.slice p1 D cc) l1 := Own.mono ((((((hO.setOther (by simp) (.slice p1 D cc)).setOther (by simp) (.slice p2 D2 cc2)).setOther (by simp) (.int .u64 0)).setOther (by simp) (.int .i64 0)).setOther (by simp) (.bool false)).setOther (by simp) (.int .i64 Ev)) (by simp)
  have hO2' : Own ((((((w1.setCell ⟨w.heap.size, 0, none⟩ (.slice p1 D cc)).setCell ⟨w.heap.size, 1, none⟩ (.slice p2 D2 cc2)).setCell ⟨w.heap.size, 2, none⟩ (.int .u64 0)).setCell ⟨w.heap.size, 3, none⟩ (.int .i64 0)).setCell ⟨w.heap.size, 4, none⟩ (.bool false)).setCell ⟨w.heap.size, 5, none⟩ (.int .i64 Ev)) w.heap.size (.slice p2 D2 cc2) l2 := Own.mono ((((((hO2.setOther (by simp) (.slice p1 D cc)).setOther (by simp) (.slice p2 D2 cc2)).setOther (by simp) (.int .u64 0)).setOther (by simp) (.int .i64 0)).setOther (by simp) (.bool false)).setOther (by simp) (.int .i64 Ev)) (by simp)
  have hK' : Kp w ((((((w1.setCell ⟨w.heap.size, 0, none⟩ (.slice p1 D cc)).setCell ⟨w.heap.size, 1, none⟩ (.slice p2 D2 cc2)).setCell ⟨w.heap.size, 2, none⟩ (.int .u64 0)).setCell ⟨w.heap.size, 3, none⟩ (.int .i64 0)).setCell ⟨w.heap.size, 4, none⟩ (.bool false)).setCell ⟨w.heap.size, 5, none⟩ (.int .i64 Ev)) := ((((((hk0.setCell (Nat.le_refl _) (.slice p1 D cc)).setCell (Nat.le_refl _) (.slice p2 D2 cc2)).setCell (Nat.le_refl _) (.int .u64 0)).setCell (Nat.le_refl _) (.int .i64 0)).setCell (Nat.le_refl _) (.bool false)).setCell (Nat.le_refl _) (.int .i64 Ev))
  clear hO hO2 hk hk0
  go_wp2_with (first | (go_at_call 52; refine (hcd _).mono ?_; rintro e w' ⟨rfl, rfl⟩))
  exact bodyPost_ret (v := .agg #[.slice p1 D cc, .slice p2 D2 cc2, .int .u64 0, .int .i64 0, .bool false, .int .i64 Ev]) (by simp [results, Tryd.results27, go_sem] <;> simp [go_sem, *]) rfl ⟨p1, cc, p2, cc2, by rw [HD.out.1, HD.out.2.1], ⟨by rw [← HD.out.1]; exact hO', by rw [← HD.out.2.1]; exact hO2', HD.out.2.2⟩, hK'⟩
set_option maxRecDepth 20000 in
set_option maxHeartbeats 1000000 in
theorem wants_quo (x n : Int) : Asks 28 9 x n F9 := by
  intro p q c d xs ys w hx hy hwx hwy lx ly hc hd
  obtain ⟨w0, hw0⟩ : ∃ w0, w0 = w.alloc (.cells #[.slice none 0 0, .slice none 0 0, .int .u64 0, .int .i64 0, .bool false, .int .i64 0] 52) := ⟨_, rfl⟩
  have hk00 : Kp w w0 := by rw [hw0]; exact (Kp.refl w).alloc _
  have h := rquo_ p q c d xs ys w0 (hx.grown hk00) (hy.grown hk00) hwx hwy lx ly
  obtain ⟨R, hR⟩ : ∃ R : Rs, R = F9 xs ys := ⟨_, rfl⟩
  rw [← hR]
  obtain ⟨l1, l2, Wv, Zv, Bv, Ev⟩ := R
  have r1 : l1 = _ := congrArg Rs.l1 hR
  have r2 : l2 = _ := congrArg Rs.l2 hR
  have r3 : Wv = _ := congrArg Rs.W hR
  have r4 : Zv = _ := congrArg Rs.Z hR
  have r5 : Bv = _ := congrArg Rs.B hR
  have r6 : Ev = _ := congrArg Rs.E hR
  simp only [F9] at r1 r2 r3 r4 r5 r6
  clear hR
  rw [← r1, ← r2, ← r6] at h
  subst r3
  subst r4
  subst r5
  obtain ⟨N, hN⟩ : ∃ N, N = xs.length := ⟨_, rfl⟩
  obtain ⟨M, hM⟩ : ∃ M, M = ys.length := ⟨_, rfl⟩
  rw [← hN, ← hM] at h
  rw [← hN, ← hM]
  rw [hw0] at h
  skip
  clear hx hy hwx hwy lx ly hN hM hw0 hk00 hc hd r1 r2 r6
  go_enter Tryd.func28, Tryd.ntmps28
  go_wp2_with fail
  refine h.mono ?_; rintro e w1 ⟨⟨p1, cc, p2, cc2, rfl, hO, hO2, hne⟩, hk⟩
  obtain ⟨D, hD⟩ : ∃ D, D = l1.length := ⟨_, rfl⟩
  obtain ⟨D2, hD2⟩ : ∃ D2, D2 = l2.length := ⟨_, rfl⟩
  have HD : Hid (D = l1.length ∧ D2 = l2.length ∧ ∀ g, p1 = some ⟨g, 0, none⟩ → p2 ≠ some ⟨g, 0, none⟩) := ⟨hD, hD2, hne⟩
  rw [← hD] at hO ⊢
  rw [← hD2] at hO2 ⊢
  clear h hD hD2 hne
  have k0 := kkeep hk (b := w.heap.size) (o := 0) (v := .slice none 0 0) (by simp [go_sem])
  have z0 : w1.frozen? ⟨w.heap.size, 0, none⟩ = false := by rw [Below.frozen hk (by simp)]; simp [go_sem]
  have k1 := kkeep hk (b := w.heap.size) (o := 1) (v := .slice none 0 0) (by simp [go_sem])
  have z1 : w1.frozen? ⟨w.heap.size, 1, none⟩ = false := by rw [Below.frozen hk (by simp)]; simp [go_sem]
  have k2 := kkeep hk (b := w.heap.size) (o := 2) (v := .int .u64 0) (by simp [go_sem])
  have z2 : w1.frozen? ⟨w.heap.size, 2, none⟩ = false := by rw [Below.frozen hk (by simp)]; simp [go_sem]
  have k3 := kkeep hk (b := w.heap.size) (o := 3) (v := .int .i64 0) (by simp [go_sem])
  have z3 : w1.frozen? ⟨w.heap.size, 3, none⟩ = false := by rw [Below.frozen hk (by simp)]; simp [go_sem]
  have k4 := kkeep hk (b := w.heap.size) (o := 4) (v := .bool false) (by simp [go_sem])
  have z4 : w1.frozen? ⟨w.heap.size, 4, none⟩ = false := by rw [Below.frozen hk (by simp)]; simp [go_sem]
  have k5 := kkeep hk (b := w.heap.size) (o := 5) (v := .int .i64 0) (by simp [go_sem])
  have z5 : w1.frozen? ⟨w.heap.size, 5, none⟩ = false := by rw [Below.frozen hk (by simp)]; simp [go_sem]
  have hk0 : Kp w w1 := ((Kp.refl w).alloc _).trans hk
  have hO' : Own ((((((w1.setCell ⟨w.heap.size, 0, none⟩ (.slice p1 D cc)).setCell ⟨w.heap.size, 1, none⟩ (.slice p2 D2 cc2)).setCell ⟨w.heap.size, 2, none⟩ (.int .u64 0)).setCell ⟨w.heap.size, 3, none⟩ (.int .i64 0)).setCell ⟨w.heap.size, 4, none⟩ (.bool false)).setCell ⟨w.heap.size, 5, none⟩ (.int .i64 Ev)) w.heap.size (.slice p1 D cc) l1 := Own.mono ((((((hO.setOther (by simp) (.slice p1 D cc)).setOther (by simp) (.slice p2 D2 cc2)).setOther (by simp) (.int .u64 0)).setOther (by simp) (.int .i64 0)).setOther (by simp) (.bool false)).setOther (by simp) (.int .i64 Ev)) (by simp)
  have hO2' : Own ((((((w1.setCell ⟨w.heap.size, 0, none⟩ (.slice p1 D cc)).setCell ⟨w.heap.size, 1, none⟩ (.slice p2 D2 cc2)).setCell ⟨w.heap.size, 2, none⟩ (.int .u64 0)).setCell ⟨w.heap.size, 3, none⟩ (.int .i64 0)).setCell ⟨w.heap.size, 4, none⟩ (.bool false)).setCell ⟨w.heap.size, 5, none⟩ (.int .i64 Ev)) w.heap.size (.slice p2 D2 cc2) l2 := Own.mono ((((((hO2.setOther (by simp) (.slice p1 D cc)).setOther (by simp) (.slice p2 D2 cc2)).setOther (by simp) (.int .u64 0)).setOther (by simp) (.int .i64 0)).setOther (by simp) (.bool false)).setOther (by simp) (.int .i64 Ev)) (by simp)
  have hK' : Kp w ((((((w1.setCell ⟨w.heap.size, 0, none⟩ (.slice p1 D cc)).setCell ⟨w.heap.size, 1, none⟩ (.slice p2 D2 cc2)).setCell ⟨w.heap.size, 2, none⟩ (.int .u64 0)).setCell ⟨w.heap.size, 3, none⟩ (.int .i64 0)).setCell ⟨w.heap.size, 4, none⟩ (.bool false)).setCell ⟨w.heap.size, 5, none⟩ (.int .i64 Ev)) := ((((((hk0.setCell (Nat.le_refl _) (.slice p1 D cc)).setCell (Nat.le_refl _) (.slice p2 D2 cc2)).setCell (Nat.le_refl _) (.int .u64 0)).setCell (Nat.le_refl _) (.int .i64 0)).setCell (Nat.le_refl _) (.bool false)).setCell (Nat.le_refl _) (.int .i64 Ev))
  clear hO hO2 hk hk0
  go_wp2
  exact bodyPost_ret (v := .agg #[.slice p1 D cc, .slice p2 D2 cc2, .int .u64 0, .int .i64 0, .bool false, .int .i64 Ev]) (by simp [results, Tryd.results28, go_sem] <;> simp [go_sem, *]) rfl ⟨p1, cc, p2, cc2, by rw [HD.out.1, HD.out.2.1], ⟨by rw [← HD.out.1]; exact hO', by rw [← HD.out.2.1]; exact hO2', HD.out.2.2⟩, hK'⟩
set_option maxRecDepth 20000 in
set_option maxHeartbeats 400000 in
theorem quots_ (p q : Option Addr) (c d : Nat) (xs ys : List Int) (w : World) (hx : Arr w p xs) (hy : Arr w q ys) (hwx : Wd xs) (hwy : Wd ys) (lx : xs.length ≤ 1048576) (ly : ys.length ≤ 1048576) :
    Calls Tryd.prog 4 #[.slice p xs.length c, .slice q ys.length d] w fun e w' => e = .returned (.bool true) ∧ Kp w w' := by
  have h := held_ 9 0 0 F9 (asks_quo 0 0) (wants_quo 0 0) p q c d xs ys w hx hy hwx hwy lx ly (fun us vs _ _ => ⟨Nat.le_trans (quoN_len _ _).1 (by decide), Nat.le_trans (quoN_len _ _).2 (by decide)⟩)
  obtain ⟨N, hN⟩ : ∃ N, N = xs.length := ⟨_, rfl⟩
  obtain ⟨M, hM⟩ : ∃ M, M = ys.length := ⟨_, rfl⟩
  rw [← hN, ← hM] at h ⊢
  clear hx hy hwx hwy lx ly hN hM
  go_enter Tryd.func4, Tryd.ntmps4
  go_wp2_with fail
  refine h.mono ?_; rintro e w1 ⟨rfl, hk⟩
  go_wp2
  exact bodyPost_ret (v := .bool true) (by simp [results, Tryd.results4, go_sem] <;> simp only [*]) rfl ⟨rfl, hk⟩

namespace natQuotients
open Go.ChangeShapes Go.WideShapes Go.ChangeAt Go.RowKit
set_option maxRecDepth 20000 in
theorem own : ownKnob Tryd.prog.godebug = none := by kernel_rfl
set_option maxRecDepth 20000 in
theorem laidOut : laidOutB Tryd.prog = true := by kernel_rfl
set_option maxRecDepth 20000 in
theorem cells25 : Tryd.prog.cellsOf 25 = 1 := by kernel_rfl
set_option maxRecDepth 20000 in
theorem bulk_len {H : Type} (l : List (DataW H)) : l.length ≤ Rows.uptoBulkAll l := by
  induction l with
  | nil => simp [Rows.uptoBulkAll]
  | cons x r ih =>
    have h1 : 1 ≤ Rows.uptoBulk x := by cases x <;> first | (simp [Rows.uptoBulk]; done) | (rename_i l; cases l <;> simp [Rows.uptoBulk])
    simp only [Rows.uptoBulkAll, List.length_cons]
    omega
set_option maxRecDepth 20000 in
theorem opened {H : Type} {enc : TypeId × Value → H} {W : World} {base : Nat} {v : Value} {d : DataW H} {ps : List MemPlace} (hv : Value.okWide Tryd.prog W .any base 26 v) (h : DataW.Trod enc Tryd.prog W 0 (fun _ => true) true 26 v d ps) (hb : Rows.uptoBulk d ≤ 1048576) :
    ∃ p cap xs, v = .slice p xs.length cap ∧ Arr W p xs ∧ Wd xs ∧ xs.length ≤ 1048576 := by
  obtain ⟨a0, len, cap, rfl⟩ := okWide_slice Tryd.underlying26 hv
  obtain ⟨fuel, hf⟩ := h
  rcases open_ints Tryd.underlying26 Tryd.underlying25 cells25 hf with ⟨hcs, hx⟩ | ⟨a, len', cap', zs, hcs, _, hl, hm, hz, hx, hcell, hwz⟩
  · simp [Value.cells] at hcs
    obtain ⟨rfl, rfl, rfl⟩ := hcs
    exact ⟨none, 0, [], rfl, Or.inl rfl, Wd.nil, by simp⟩
  · simp [Value.cells] at hcs
    obtain ⟨rfl, rfl, rfl⟩ := hcs
    simp only [Prod.mk.injEq] at hx
    obtain ⟨rfl, rfl⟩ := hx
    simp only [if_true] at hz
    have hlen : (zs.take len).length = len := by rw [List.length_take]; omega
    have hle : len ≤ 1048576 := by
      have h1 := bulk_len (lits (H := H) .u32 (zs.take len))
      have h2 : (lits (H := H) .u32 (zs.take len)).length = len := by simp [lits]; omega
      simp only [Rows.uptoBulk] at hb
      omega
    refine ⟨some a, cap, zs.take len, by rw [hlen], ?_, ?_, by omega⟩
    · by_cases c : len = 0
      · left; subst c; simp
      · right
        obtain ⟨b, off, rfl, hc⟩ := ints_at hcell (by omega)
        refine ⟨b, off, rfl, fun j hj => ?_⟩
        have hj' : j < len := by omega
        rw [hc j (by omega)]
        simp [List.getD, hj']
    · intro j
      have e1 : IntKind.u32.min = 0 := rfl
      have e2 : IntKind.u32.max = 4294967295 := rfl
      by_cases c : j < (zs.take len).length
      · have hmem : (zs.take len).getD j 0 ∈ zs := by
          have : (zs.take len).getD j 0 = (zs.take len)[j] := by rw [List.getD, List.getElem?_eq_getElem c]; rfl
          rw [this]; exact List.mem_of_mem_take (List.getElem_mem c)
        obtain ⟨z, hzz⟩ : ∃ z, z = (zs.take len).getD j 0 := ⟨_, rfl⟩
        rw [← hzz] at hmem ⊢
        have h5 := hwz _ hmem
        simp [Lit.wf, e1, e2] at h5
        omega
      · have : (zs.take len).getD j 0 = 0 := by
          rw [List.getD, List.getElem?_eq_none (by omega)]; rfl
        omega
set_option maxRecDepth 20000 in
theorem contract (H : Type) (enc : TypeId × Value → H) (W : World) (base : Nat) (args : Array Value) (ds gs : List (DataW H)) (before : List MemPlace)
    (hval : ∀ (j : Nat) t v, Tryd.f4.params[j]? = some t → args[j]? = some v → Value.okWide Tryd.prog W .any base t v)
    (hW : DataW.Whole enc Tryd.prog Tryd.f4.params.toList Rows.natQuotientsSpec.vars false W args.toList ds gs before) (hk : Rows.uptoSmall H (ds ++ gs) = true) :
    Calls Tryd.prog 4 args W fun e W' => ∃ v, e = .returned v ∧ Rows.natQuotientsSpec.post enc Tryd.prog Tryd.f4 false true false false W args v W' := by
  have hW' := hW
  obtain ⟨p, q, hA0, hV, rfl, hfz, hnd⟩ := hW
  have hA : DataW.TrodAll enc Tryd.prog W 0 (fun _ => true) true Tryd.f4.params.toList args.toList ds p := hA0
  rw [Tryd.params4] at hA hval
  obtain ⟨v0, vs0, d0, ds0, p0, q0, hargs, rfl, rfl, h0, r0⟩ := trodAll_cons hA
  obtain ⟨v1, vs1, d1, ds1, p1, q1, rfl, rfl, rfl, h1, r1⟩ := trodAll_cons r0
  obtain ⟨rfl, rfl, rfl⟩ := trodAll_nil r1
  obtain rfl : args = #[v0, v1] := by cases args; simp_all
  obtain ⟨rfl, rfl⟩ := trodVars_none hV
  clear hA0
  simp only [List.append_nil] at hW' hk
  have hb : Rows.uptoBulkAll [d0, d1] ≤ 1048576 := of_decide_eq_true hk
  simp only [Rows.uptoBulkAll] at hb
  have hlt : ∀ x ∈ p0 ++ p1, x.block < W.heap.size := fun x hx => by simpa using hW'.lt x (by simpa using hx)
  have ha0 : ∀ (W' : World), Below W.heap.size W W' → DataW.Trod enc Tryd.prog W' 0 (fun b => decide (b < W.heap.size)) true 26 v0 d0 p0 :=
    fun W' hn => Below.trod laidOut (by kernel_rfl) (of_decide_eq_true (by kernel_rfl)) h0 hn (fun x hx => hlt x (List.mem_append_left _ hx))
  have ha1 : ∀ (W' : World), Below W.heap.size W W' → DataW.Trod enc Tryd.prog W' 0 (fun b => decide (b < W.heap.size)) true 26 v1 d1 p1 :=
    fun W' hn => Below.trod laidOut (by kernel_rfl) (of_decide_eq_true (by kernel_rfl)) h1 hn (fun x hx => hlt x (List.mem_append_right _ hx))
  obtain ⟨pa, ca, xs, rfl, hx, hwx, lx⟩ := opened (hval 0 26 v0 rfl rfl) h0 (by omega)
  obtain ⟨pb, cb, ys, rfl, hy, hwy, ly⟩ := opened (hval 1 26 v1 rfl rfl) h1 (by omega)
  refine (quots_ pa pb ca cb xs ys W hx hy hwx hwy lx ly).mono fun e W' ⟨he, hnx⟩ => ?_
  subst he
  refine ⟨_, rfl, _, _, _, [], _, [], hW', ?_, trodAll_cons_mk (ha0 _ hnx) (trodAll_cons_mk (ha1 _ hnx) trodAll_mk0), rfl, Below.frame hnx _, fun h => by cases h⟩
  exact trodAll_cons_mk (shut_bool Tryd.underlying4 _) trodAll_mk0
set_option maxRecDepth 20000 in
theorem laid_met (os : Os) : laidMet Tryd.prog Rows.natQuotientsUptoRow.laid ((World.doorLaid Tryd.prog 14 os).forCall (fun _ _ => 0) ⟨#[], #[.slice none 0 0, .slice none 0 0], []⟩).memory :=
  laidMet_of_run' 8 (by kernel_rfl) (by kernel_rfl)
set_option maxRecDepth 20000 in
theorem reads (os : Os) {H : Type} (enc : TypeId × Value → H) : ∃ places, DataW.whole enc Tryd.prog ((World.doorLaid Tryd.prog 14 os).forCall (fun _ _ => 0) ⟨#[], #[.slice none 0 0, .slice none 0 0], []⟩).memory Tryd.f4.params.toList Rows.natQuotientsSpec.vars false #[Value.slice none 0 0, .slice none 0 0].toList 8 = some ([.nil, .nil], [], places) :=
  ⟨[], by kernel_rfl⟩
set_option maxRecDepth 100000 in
set_option maxRecDepth 20000 in
theorem liftedUpto (os : Os) (started : os.Started) (H : Type) (enc : TypeId × Value → H) (F : Stop.Interp) :
    ReturnsInHanded {} Tryd.checked os 4 .any ((Rows.OpenSpec.upto Rows.natQuotientsSpec).preRow enc Tryd.prog Tryd.f4 Rows.natQuotientsUptoRow.domain false Rows.natQuotientsUptoRow.laid) (((Rows.OpenSpec.upto Rows.natQuotientsSpec).at F).post enc Tryd.prog Tryd.f4 false true false false) := by
  obtain ⟨places, hx⟩ := reads os enc
  refine returnsInHanded_of_row (C := Tryd.checked) (s := Rows.OpenSpec.upto Rows.natQuotientsSpec) own started (by kernel_rfl) Tryd.func4
    (witness_row_atRef (enc := enc) (C := Tryd.checked) false (World.doorLaid Tryd.prog 14 os) #[.slice none 0 0, .slice none 0 0] rfl (by kernel_rfl) (by kernel_rfl) (by kernel_rfl)
      (OpenSpec.preRow_of_cond 8 hx (by kernel_rfl) (fun k hk => by cases hk; kernel_rfl) (by kernel_rfl) (laid_met os))) ?_
  intro W base args ds gs before hval hW c1 c2 c3 _ _ _
  first | exact contract H enc W base args ds gs before hval hW (c1 _ rfl) | exact contract H enc W base args ds gs before hval hW (c2 _ rfl) | exact contract H enc W base args ds gs before hval hW (c3 _ rfl)
set_option maxRecDepth 20000 in
theorem saidUpto : Rows.NatQuotientsUptoSaid :=
  OpenClaim.holds_of_cond 4 Tryd.f4 rfl rfl rfl rfl rfl rfl rfl ⟨rfl, rfl, rfl, rfl, rfl⟩ rfl rfl rfl rfl rfl (by kernel_rfl) Tryd.func4 (by kernel_rfl)
    (of_decide_eq_true (by kernel_rfl)) (by unfold Func.isWrapper; first | (rw [if_pos (by decide +kernel)]; kernel_rfl) | (rw [if_neg (by decide +kernel)]; exact ⟨rfl, rfl⟩))
    (fun os started H enc _ F => by rw [OpenClaim.pre_eq_preRow]; exact liftedUpto os started H enc F)
set_option maxRecDepth 20000 in
theorem plain (f : FuncId) (fn : Func) (hf : Tryd.pinned.checked.prog.funcNamed "verge/vergelaw2.NatQuotients" = some f) (hfn : Tryd.pinned.checked.prog.funcs[f]? = some fn) :
    false = Tryd.pinned.checked.prog.looks [] ∧ ∀ (j : Nat) t, fn.params[j]? = some t → Tryd.pinned.checked.prog.wantsStandIn t = false := by
  obtain rfl : f = 4 := Option.some.inj ((show Tryd.prog.funcNamed "verge/vergelaw2.NatQuotients" = some 4 by kernel_rfl).symm.trans hf) |>.symm
  obtain rfl : fn = Tryd.f4 := (Option.some.inj (Tryd.func4.symm.trans hfn)).symm
  refine ⟨by kernel_rfl, fun j t ht => ?_⟩
  rw [Tryd.params4] at ht
  obtain rfl : t = 26 := by simpa using Array.mem_of_getElem? ht
  exact (show Tryd.prog.wantsStandIn 26 = false by kernel_rfl)
end natQuotients
set_option maxRecDepth 20000 in
theorem natQuotients_holds : Rows.NatQuotientsUptoCardSaid :=
  Claim7.holds_tied_plain_at .later [] _ _ _ _ natQuotients.saidUpto (fun _ h => by cases h) (by kernel_rfl) (fun _ h => by cases h) natQuotientsUpto_row_tie rfl ⟨rfl, rfl⟩ (by kernel_rfl) rfl natQuotients.plain (by kernel_rfl)
end Go.Proofs.YtkjcnnjgaififaaDoor
