import Derived.Test.YtjblehmafjcncaaDoorProg
import Derived.Test.YtjblehmafjcncaaDoorKXA0
import Derived.Test.YtjblehmafjcncaaDoorKXM
import Derived.Test.YtjblehmafjcncaaDoorKXN
import Derived.Test.YtjblehmafjcncaaDoorKXRP
import Derived.Test.YtjblehmafjcncaaDoorKXT
import Derived.Test.YtjblehmafjcncaaDoorKNS
import Derived.Test.YtjblehmafjcncaaDoorKXRM
import Derived.Test.YtjblehmafjcncaaDoorKXNM
import Derived.Test.YtjblehmafjcncaaDoorKXRMU
import Derived.WalkKit
import Derived.ProofKit
import Derived.RowKit3
import Derived.WalkSpells
import Derived.StillTactics
import Derived.Deep.QuietTactic
import Derived.BigQuiet
import Derived.Below
import Derived.Deep.OwnRows
import Derived.OwnWalk
namespace Go.Proofs.YtjblehmafjcncaaDoor
open Go.RowKit
set_option maxRecDepth 20000 in
set_option maxHeartbeats 400000 in
theorem code_ (z : Int) (w : World) : Calls Tryd.prog 19 #[.int .i64 z] w fun e w' => e = .returned (.int .i64 z) ∧ w' = w := by
  go_enter Tryd.func19, Tryd.ntmps19
  go_wp2
  exact bodyPost_ret (v := .int .i64 z) (by simp [results, Tryd.results19, go_sem] <;> simp only [*]) rfl ⟨rfl, rfl⟩
set_option maxRecDepth 20000 in
set_option maxHeartbeats 400000 in
theorem asked_add (p q : Option Addr) (c d : Nat) (xs ys : List Int) (w : World) (hx : Arr w p xs) (hy : Arr w q ys) (hwx : Wd xs) (hwy : Wd ys) (lx : xs.length < 1099511627775) (ly : ys.length < 1099511627775) (hc : xs.length ≤ c) (hd : ys.length ≤ d) (n : Int) :
    Calls Tryd.prog 22 #[.int .i64 6, .slice p xs.length c, .slice q ys.length d, .int .i64 n] w fun e w' => ∃ v, e = .returned (.tuple #[v, .int .i64 (addN (val xs) (val ys)).2]) ∧ Own w' w.heap.size v (addN (val xs) (val ys)).1 ∧ Kp w w' := by
  have h := nadd_ p q c d xs ys w hx hy hwx hwy lx ly hc hd
  obtain ⟨N, hN⟩ : ∃ N, N = xs.length := ⟨_, rfl⟩
  obtain ⟨M, hM⟩ : ∃ M, M = ys.length := ⟨_, rfl⟩
  obtain ⟨R, hR⟩ : ∃ R, R = addN (val xs) (val ys) := ⟨_, rfl⟩
  obtain ⟨ls, er⟩ := R
  rw [← hN, ← hM, ← hR] at h
  rw [← hN, ← hM, ← hR]
  clear hx hy hwx hwy lx ly hN hM hR hc hd
  go_enter Tryd.func22, Tryd.ntmps22
  go_wp2_with fail
  refine h.mono ?_; rintro e w1 ⟨v, rfl, hO, hk⟩
  go_wp2
  exact bodyPost_ret (v := .tuple #[v, .int .i64 er]) (by simp [results, Tryd.results22, go_sem] <;> simp only [*]) rfl ⟨v, rfl, hO, hk⟩
set_option maxRecDepth 20000 in
set_option maxHeartbeats 1000000 in
theorem ask_add (p q : Option Addr) (c d : Nat) (xs ys : List Int) (w : World) (hx : Arr w p xs) (hy : Arr w q ys) (hwx : Wd xs) (hwy : Wd ys) (lx : xs.length < 1099511627775) (ly : ys.length < 1099511627775) (hc : xs.length ≤ c) (hd : ys.length ≤ d) (x : Int) (n : Int) :
    Calls Tryd.prog 7 #[.int .i64 6, .slice p xs.length c, .slice q ys.length d, .int .u64 x, .int .i64 n] w fun e w' => ∃ v, e = .returned (.agg #[v, .slice none 0 0, .int .u64 0, .int .i64 0, .bool false, .int .i64 (addN (val xs) (val ys)).2]) ∧ Own w' w.heap.size v (addN (val xs) (val ys)).1 ∧ Kp w w' := by
  obtain ⟨w0, hw0⟩ : ∃ w0, w0 = w.alloc (.cells #[.slice none 0 0, .slice none 0 0, .int .u64 0, .int .i64 0, .bool false, .int .i64 0] 32) := ⟨_, rfl⟩
  have hk00 : Kp w w0 := by rw [hw0]; exact (Kp.refl w).alloc _
  have h := asked_add p q c d xs ys w0 (hx.grown hk00) (hy.grown hk00) hwx hwy lx ly hc hd n
  obtain ⟨N, hN⟩ : ∃ N, N = xs.length := ⟨_, rfl⟩
  obtain ⟨M, hM⟩ : ∃ M, M = ys.length := ⟨_, rfl⟩
  obtain ⟨R, hR⟩ : ∃ R, R = addN (val xs) (val ys) := ⟨_, rfl⟩
  obtain ⟨ls, er⟩ := R
  rw [← hN, ← hM, ← hR] at h
  rw [← hN, ← hM, ← hR]
  have hcd := code_ er
  rw [hw0] at h
  clear hx hy hwx hwy lx ly hN hM hR hw0 hk00 hc hd
  go_enter Tryd.func7, Tryd.ntmps7
  go_wp2_with fail
  refine h.mono ?_; rintro e w1 ⟨v, rfl, hO, hk⟩
  obtain ⟨p1, cc, rfl, _, _⟩ := hO.arr
  obtain ⟨D, hD⟩ : ∃ D, D = ls.length := ⟨_, rfl⟩
  rw [← hD] at hO ⊢
  clear h hD
  have k0 := kkeep hk (b := w.heap.size) (o := 0) (v := .slice none 0 0) (by simp [go_sem])
  have z0 : w1.frozen? ⟨w.heap.size, 0, none⟩ = false := by rw [Below.frozen hk (by simp)]; simp [go_sem]
  have k1 := kkeep hk (b := w.heap.size) (o := 1) (v := .slice none 0 0) (by simp [go_sem])
  have z1 : w1.frozen? ⟨w.heap.size, 1, none⟩ = false := by rw [Below.frozen hk (by simp)]; simp [go_sem]
  have k2 := kkeep hk (b := w.heap.size) (o := 2) (v := .int .u64 0) (by simp [go_sem])
  have z2 : w1.frozen? ⟨w.heap.size, 2, none⟩ = false := by rw [Below.frozen hk (by simp)]; simp [go_sem]
  have k3 := kkeep hk (b := w.heap.size) (o := 3) (v := .int .i64 0) (by simp [go_sem])
  have z3 : w1.frozen? ⟨w.heap.size, 3, none⟩ = false := by rw [Below.frozen hk (by simp)]; simp [go_sem]
  have k4 := kkeep hk (b := w.heap.size) (o := 4) (v := .bool false) (by simp [go_sem])
  have z4 : w1.frozen? ⟨w.heap.size, 4, none⟩ = false := by rw [Below.frozen hk (by simp)]; simp [go_sem]
  have k5 := kkeep hk (b := w.heap.size) (o := 5) (v := .int .i64 0) (by simp [go_sem])
  have z5 : w1.frozen? ⟨w.heap.size, 5, none⟩ = false := by rw [Below.frozen hk (by simp)]; simp [go_sem]
  have hk0 : Kp w w1 := ((Kp.refl w).alloc _).trans hk
  have hO' : Own ((((((w1.setCell ⟨w.heap.size, 0, none⟩ (.slice p1 D cc)).setCell ⟨w.heap.size, 1, none⟩ (.slice none 0 0)).setCell ⟨w.heap.size, 2, none⟩ (.int .u64 0)).setCell ⟨w.heap.size, 3, none⟩ (.int .i64 0)).setCell ⟨w.heap.size, 4, none⟩ (.bool false)).setCell ⟨w.heap.size, 5, none⟩ (.int .i64 er)) w.heap.size (.slice p1 D cc) ls := Own.mono ((((((hO.setOther (by simp) (.slice p1 D cc)).setOther (by simp) (.slice none 0 0)).setOther (by simp) (.int .u64 0)).setOther (by simp) (.int .i64 0)).setOther (by simp) (.bool false)).setOther (by simp) (.int .i64 er)) (by simp)
  have hK' : Kp w ((((((w1.setCell ⟨w.heap.size, 0, none⟩ (.slice p1 D cc)).setCell ⟨w.heap.size, 1, none⟩ (.slice none 0 0)).setCell ⟨w.heap.size, 2, none⟩ (.int .u64 0)).setCell ⟨w.heap.size, 3, none⟩ (.int .i64 0)).setCell ⟨w.heap.size, 4, none⟩ (.bool false)).setCell ⟨w.heap.size, 5, none⟩ (.int .i64 er)) := ((((((hk0.setCell (Nat.le_refl _) (.slice p1 D cc)).setCell (Nat.le_refl _) (.slice none 0 0)).setCell (Nat.le_refl _) (.int .u64 0)).setCell (Nat.le_refl _) (.int .i64 0)).setCell (Nat.le_refl _) (.bool false)).setCell (Nat.le_refl _) (.int .i64 er))
  clear hO hk hk0
  go_wp2_with (first | (go_at_call 19; refine (hcd _).mono ?_; rintro e w' ⟨rfl, rfl⟩))
  exact bodyPost_ret (v := .agg #[.slice p1 D cc, .slice none 0 0, .int .u64 0, .int .i64 0, .bool false, .int .i64 er]) (by simp [results, Tryd.results7, go_sem] <;> simp [go_sem, *]) rfl ⟨_, rfl, hO', hK'⟩
set_option maxRecDepth 20000 in
set_option maxHeartbeats 400000 in
theorem wanted_add (p q : Option Addr) (c d : Nat) (xs ys : List Int) (w : World) (hx : Arr w p xs) (hy : Arr w q ys) (hwx : Wd xs) (hwy : Wd ys) (lx : xs.length < 1099511627775) (ly : ys.length < 1099511627775) (n : Int) :
    Calls Tryd.prog 32 #[.int .i64 6, .slice p xs.length c, .slice q ys.length d, .int .i64 n] w fun e w' => ∃ v, e = .returned (.tuple #[v, .int .i64 (addN (val xs) (val ys)).2]) ∧ Own w' w.heap.size v (addN (val xs) (val ys)).1 ∧ Kp w w' := by
  have h := radd_ p q c d xs ys w hx hy hwx hwy (by omega) (by omega)
  obtain ⟨N, hN⟩ : ∃ N, N = xs.length := ⟨_, rfl⟩
  obtain ⟨M, hM⟩ : ∃ M, M = ys.length := ⟨_, rfl⟩
  obtain ⟨R, hR⟩ : ∃ R, R = addN (val xs) (val ys) := ⟨_, rfl⟩
  obtain ⟨ls, er⟩ := R
  rw [← hN, ← hM, ← hR] at h
  rw [← hN, ← hM, ← hR]
  clear hx hy hwx hwy lx ly hN hM hR
  go_enter Tryd.func32, Tryd.ntmps32
  go_wp2_with fail
  refine h.mono ?_; rintro e w1 ⟨v, rfl, hO, hk⟩
  go_wp2
  exact bodyPost_ret (v := .tuple #[v, .int .i64 er]) (by simp [results, Tryd.results32, go_sem] <;> simp only [*]) rfl ⟨v, rfl, hO, hk⟩
set_option maxRecDepth 20000 in
set_option maxHeartbeats 1000000 in
theorem want_add (p q : Option Addr) (c d : Nat) (xs ys : List Int) (w : World) (hx : Arr w p xs) (hy : Arr w q ys) (hwx : Wd xs) (hwy : Wd ys) (lx : xs.length < 1099511627775) (ly : ys.length < 1099511627775) (x : Int) (n : Int) :
    Calls Tryd.prog 8 #[.int .i64 6, .slice p xs.length c, .slice q ys.length d, .int .u64 x, .int .i64 n] w fun e w' => ∃ v, e = .returned (.agg #[v, .slice none 0 0, .int .u64 0, .int .i64 0, .bool false, .int .i64 (addN (val xs) (val ys)).2]) ∧ Own w' w.heap.size v (addN (val xs) (val ys)).1 ∧ Kp w w' := by
  obtain ⟨w0, hw0⟩ : ∃ w0, w0 = w.alloc (.cells #[.slice none 0 0, .slice none 0 0, .int .u64 0, .int .i64 0, .bool false, .int .i64 0] 32) := ⟨_, rfl⟩
  have hk00 : Kp w w0 := by rw [hw0]; exact (Kp.refl w).alloc _
  have h := wanted_add p q c d xs ys w0 (hx.grown hk00) (hy.grown hk00) hwx hwy lx ly n
  obtain ⟨N, hN⟩ : ∃ N, N = xs.length := ⟨_, rfl⟩
  obtain ⟨M, hM⟩ : ∃ M, M = ys.length := ⟨_, rfl⟩
  obtain ⟨R, hR⟩ : ∃ R, R = addN (val xs) (val ys) := ⟨_, rfl⟩
  obtain ⟨ls, er⟩ := R
  rw [← hN, ← hM, ← hR] at h
  rw [← hN, ← hM, ← hR]
  skip
  rw [hw0] at h
  clear hx hy hwx hwy lx ly hN hM hR hw0 hk00
  go_enter Tryd.func8, Tryd.ntmps8
  go_wp2_with fail
  refine h.mono ?_; rintro e w1 ⟨v, rfl, hO, hk⟩
  obtain ⟨p1, cc, rfl, _, _⟩ := hO.arr
  obtain ⟨D, hD⟩ : ∃ D, D = ls.length := ⟨_, rfl⟩
  rw [← hD] at hO ⊢
  clear h hD
  have k0 := kkeep hk (b := w.heap.size) (o := 0) (v := .slice none 0 0) (by simp [go_sem])
  have z0 : w1.frozen? ⟨w.heap.size, 0, none⟩ = false := by rw [Below.frozen hk (by simp)]; simp [go_sem]
  have k1 := kkeep hk (b := w.heap.size) (o := 1) (v := .slice none 0 0) (by simp [go_sem])
  have z1 : w1.frozen? ⟨w.heap.size, 1, none⟩ = false := by rw [Below.frozen hk (by simp)]; simp [go_sem]
  have k2 := kkeep hk (b := w.heap.size) (o := 2) (v := .int .u64 0) (by simp [go_sem])
  have z2 : w1.frozen? ⟨w.heap.size, 2, none⟩ = false := by rw [Below.frozen hk (by simp)]; simp [go_sem]
  have k3 := kkeep hk (b := w.heap.size) (o := 3) (v := .int .i64 0) (by simp [go_sem])
  have z3 : w1.frozen? ⟨w.heap.size, 3, none⟩ = false := by rw [Below.frozen hk (by simp)]; simp [go_sem]
  have k4 := kkeep hk (b := w.heap.size) (o := 4) (v := .bool false) (by simp [go_sem])
  have z4 : w1.frozen? ⟨w.heap.size, 4, none⟩ = false := by rw [Below.frozen hk (by simp)]; simp [go_sem]
  have k5 := kkeep hk (b := w.heap.size) (o := 5) (v := .int .i64 0) (by simp [go_sem])
  have z5 : w1.frozen? ⟨w.heap.size, 5, none⟩ = false := by rw [Below.frozen hk (by simp)]; simp [go_sem]
  have hk0 : Kp w w1 := ((Kp.refl w).alloc _).trans hk
  have hO' : Own ((((((w1.setCell ⟨w.heap.size, 0, none⟩ (.slice p1 D cc)).setCell ⟨w.heap.size, 1, none⟩ (.slice none 0 0)).setCell ⟨w.heap.size, 2, none⟩ (.int .u64 0)).setCell ⟨w.heap.size, 3, none⟩ (.int .i64 0)).setCell ⟨w.heap.size, 4, none⟩ (.bool false)).setCell ⟨w.heap.size, 5, none⟩ (.int .i64 er)) w.heap.size (.slice p1 D cc) ls := Own.mono ((((((hO.setOther (by simp) (.slice p1 D cc)).setOther (by simp) (.slice none 0 0)).setOther (by simp) (.int .u64 0)).setOther (by simp) (.int .i64 0)).setOther (by simp) (.bool false)).setOther (by simp) (.int .i64 er)) (by simp)
  have hK' : Kp w ((((((w1.setCell ⟨w.heap.size, 0, none⟩ (.slice p1 D cc)).setCell ⟨w.heap.size, 1, none⟩ (.slice none 0 0)).setCell ⟨w.heap.size, 2, none⟩ (.int .u64 0)).setCell ⟨w.heap.size, 3, none⟩ (.int .i64 0)).setCell ⟨w.heap.size, 4, none⟩ (.bool false)).setCell ⟨w.heap.size, 5, none⟩ (.int .i64 er)) := ((((((hk0.setCell (Nat.le_refl _) (.slice p1 D cc)).setCell (Nat.le_refl _) (.slice none 0 0)).setCell (Nat.le_refl _) (.int .u64 0)).setCell (Nat.le_refl _) (.int .i64 0)).setCell (Nat.le_refl _) (.bool false)).setCell (Nat.le_refl _) (.int .i64 er))
  clear hO hk hk0
  go_wp2
  exact bodyPost_ret (v := .agg #[.slice p1 D cc, .slice none 0 0, .int .u64 0, .int .i64 0, .bool false, .int .i64 er]) (by simp [results, Tryd.results8, go_sem] <;> simp [go_sem, *]) rfl ⟨_, rfl, hO', hK'⟩
set_option maxRecDepth 20000 in
set_option maxHeartbeats 400000 in
theorem asked_sub (p q : Option Addr) (c d : Nat) (xs ys : List Int) (w : World) (hx : Arr w p xs) (hy : Arr w q ys) (hwx : Wd xs) (hwy : Wd ys) (lx : xs.length < 1099511627775) (ly : ys.length < 1099511627775) (hc : xs.length ≤ c) (hd : ys.length ≤ d) (n : Int) :
    Calls Tryd.prog 22 #[.int .i64 7, .slice p xs.length c, .slice q ys.length d, .int .i64 n] w fun e w' => ∃ v, e = .returned (.tuple #[v, .int .i64 (subN (val xs) (val ys)).2]) ∧ Own w' w.heap.size v (subN (val xs) (val ys)).1 ∧ Kp w w' := by
  have h := nsub_ p q c d xs ys w hx hy hwx hwy lx ly hc hd
  obtain ⟨N, hN⟩ : ∃ N, N = xs.length := ⟨_, rfl⟩
  obtain ⟨M, hM⟩ : ∃ M, M = ys.length := ⟨_, rfl⟩
  obtain ⟨R, hR⟩ : ∃ R, R = subN (val xs) (val ys) := ⟨_, rfl⟩
  obtain ⟨ls, er⟩ := R
  rw [← hN, ← hM, ← hR] at h
  rw [← hN, ← hM, ← hR]
  clear hx hy hwx hwy lx ly hN hM hR hc hd
  go_enter Tryd.func22, Tryd.ntmps22
  go_wp2_with fail
  refine h.mono ?_; rintro e w1 ⟨v, rfl, hO, hk⟩
  go_wp2
  exact bodyPost_ret (v := .tuple #[v, .int .i64 er]) (by simp [results, Tryd.results22, go_sem] <;> simp only [*]) rfl ⟨v, rfl, hO, hk⟩
set_option maxRecDepth 20000 in
set_option maxHeartbeats 1000000 in
theorem ask_sub (p q : Option Addr) (c d : Nat) (xs ys : List Int) (w : World) (hx : Arr w p xs) (hy : Arr w q ys) (hwx : Wd xs) (hwy : Wd ys) (lx : xs.length < 1099511627775) (ly : ys.length < 1099511627775) (hc : xs.length ≤ c) (hd : ys.length ≤ d) (x : Int) (n : Int) :
    Calls Tryd.prog 7 #[.int .i64 7, .slice p xs.length c, .slice q ys.length d, .int .u64 x, .int .i64 n] w fun e w' => ∃ v, e = .returned (.agg #[v, .slice none 0 0, .int .u64 0, .int .i64 0, .bool false, .int .i64 (subN (val xs) (val ys)).2]) ∧ Own w' w.heap.size v (subN (val xs) (val ys)).1 ∧ Kp w w' := by
  obtain ⟨w0, hw0⟩ : ∃ w0, w0 = w.alloc (.cells #[.slice none 0 0, .slice none 0 0, .int .u64 0, .int .i64 0, .bool false, .int .i64 0] 32) := ⟨_, rfl⟩
  have hk00 : Kp w w0 := by rw [hw0]; exact (Kp.refl w).alloc _
  have h := asked_sub p q c d xs ys w0 (hx.grown hk00) (hy.grown hk00) hwx hwy lx ly hc hd n
  obtain ⟨N, hN⟩ : ∃ N, N = xs.length := ⟨_, rfl⟩
  obtain ⟨M, hM⟩ : ∃ M, M = ys.length := ⟨_, rfl⟩
  obtain ⟨R, hR⟩ : ∃ R, R = subN (val xs) (val ys) := ⟨_, rfl⟩
  obtain ⟨ls, er⟩ := R
  rw [← hN, ← hM, ← hR] at h
  rw [← hN, ← hM, ← hR]
  have hcd := code_ er
  rw [hw0] at h
  clear hx hy hwx hwy lx ly hN hM hR hw0 hk00 hc hd
  go_enter Tryd.func7, Tryd.ntmps7
  go_wp2_with fail
  refine h.mono ?_; rintro e w1 ⟨v, rfl, hO, hk⟩
  obtain ⟨p1, cc, rfl, _, _⟩ := hO.arr
  obtain ⟨D, hD⟩ : ∃ D, D = ls.length := ⟨_, rfl⟩
  rw [← hD] at hO ⊢
  clear h hD
  have k0 := kkeep hk (b := w.heap.size) (o := 0) (v := .slice none 0 0) (by simp [go_sem])
  have z0 : w1.frozen? ⟨w.heap.size, 0, none⟩ = false := by rw [Below.frozen hk (by simp)]; simp [go_sem]
  have k1 := kkeep hk (b := w.heap.size) (o := 1) (v := .slice none 0 0) (by simp [go_sem])
  have z1 : w1.frozen? ⟨w.heap.size, 1, none⟩ = false := by rw [Below.frozen hk (by simp)]; simp [go_sem]
  have k2 := kkeep hk (b := w.heap.size) (o := 2) (v := .int .u64 0) (by simp [go_sem])
  have z2 : w1.frozen? ⟨w.heap.size, 2, none⟩ = false := by rw [Below.frozen hk (by simp)]; simp [go_sem]
  have k3 := kkeep hk (b := w.heap.size) (o := 3) (v := .int .i64 0) (by simp [go_sem])
  have z3 : w1.frozen? ⟨w.heap.size, 3, none⟩ = false := by rw [Below.frozen hk (by simp)]; simp [go_sem]
  have k4 := kkeep hk (b := w.heap.size) (o := 4) (v := .bool false) (by simp [go_sem])
  have z4 : w1.frozen? ⟨w.heap.size, 4, none⟩ = false := by rw [Below.frozen hk (by simp)]; simp [go_sem]
  have k5 := kkeep hk (b := w.heap.size) (o := 5) (v := .int .i64 0) (by simp [go_sem])
  have z5 : w1.frozen? ⟨w.heap.size, 5, none⟩ = false := by rw [Below.frozen hk (by simp)]; simp [go_sem]
  have hk0 : Kp w w1 := ((Kp.refl w).alloc _).trans hk
  have hO' : Own ((((((w1.setCell ⟨w.heap.size, 0, none⟩ (.slice p1 D cc)).setCell ⟨w.heap.size, 1, none⟩ (.slice none 0 0)).setCell ⟨w.heap.size, 2, none⟩ (.int .u64 0)).setCell ⟨w.heap.size, 3, none⟩ (.int .i64 0)).setCell ⟨w.heap.size, 4, none⟩ (.bool false)).setCell ⟨w.heap.size, 5, none⟩ (.int .i64 er)) w.heap.size (.slice p1 D cc) ls := Own.mono ((((((hO.setOther (by simp) (.slice p1 D cc)).setOther (by simp) (.slice none 0 0)).setOther (by simp) (.int .u64 0)).setOther (by simp) (.int .i64 0)).setOther (by simp) (.bool false)).setOther (by simp) (.int .i64 er)) (by simp)
  have hK' : Kp w ((((((w1.setCell ⟨w.heap.size, 0, none⟩ (.slice p1 D cc)).setCell ⟨w.heap.size, 1, none⟩ (.slice none 0 0)).setCell ⟨w.heap.size, 2, none⟩ (.int .u64 0)).setCell ⟨w.heap.size, 3, none⟩ (.int .i64 0)).setCell ⟨w.heap.size, 4, none⟩ (.bool false)).setCell ⟨w.heap.size, 5, none⟩ (.int .i64 er)) := ((((((hk0.setCell (Nat.le_refl _) (.slice p1 D cc)).setCell (Nat.le_refl _) (.slice none 0 0)).setCell (Nat.le_refl _) (.int .u64 0)).setCell (Nat.le_refl _) (.int .i64 0)).setCell (Nat.le_refl _) (.bool false)).setCell (Nat.le_refl _) (.int .i64 er))
  clear hO hk hk0
  go_wp2_with (first | (go_at_call 19; refine (hcd _).mono ?_; rintro e w' ⟨rfl, rfl⟩))
  exact bodyPost_ret (v := .agg #[.slice p1 D cc, .slice none 0 0, .int .u64 0, .int .i64 0, .bool false, .int .i64 er]) (by simp [results, Tryd.results7, go_sem] <;> simp [go_sem, *]) rfl ⟨_, rfl, hO', hK'⟩
set_option maxRecDepth 20000 in
set_option maxHeartbeats 400000 in
theorem wanted_sub (p q : Option Addr) (c d : Nat) (xs ys : List Int) (w : World) (hx : Arr w p xs) (hy : Arr w q ys) (hwx : Wd xs) (hwy : Wd ys) (lx : xs.length < 1099511627775) (ly : ys.length < 1099511627775) (n : Int) :
    Calls Tryd.prog 32 #[.int .i64 7, .slice p xs.length c, .slice q ys.length d, .int .i64 n] w fun e w' => ∃ v, e = .returned (.tuple #[v, .int .i64 (subN (val xs) (val ys)).2]) ∧ Own w' w.heap.size v (subN (val xs) (val ys)).1 ∧ Kp w w' := by
  have h := rsub_ p q c d xs ys w hx hy hwx hwy lx ly
  obtain ⟨N, hN⟩ : ∃ N, N = xs.length := ⟨_, rfl⟩
  obtain ⟨M, hM⟩ : ∃ M, M = ys.length := ⟨_, rfl⟩
  obtain ⟨R, hR⟩ : ∃ R, R = subN (val xs) (val ys) := ⟨_, rfl⟩
  obtain ⟨ls, er⟩ := R
  rw [← hN, ← hM, ← hR] at h
  rw [← hN, ← hM, ← hR]
  clear hx hy hwx hwy lx ly hN hM hR
  go_enter Tryd.func32, Tryd.ntmps32
  go_wp2_with fail
  refine h.mono ?_; rintro e w1 ⟨v, rfl, hO, hk⟩
  go_wp2
  exact bodyPost_ret (v := .tuple #[v, .int .i64 er]) (by simp [results, Tryd.results32, go_sem] <;> simp only [*]) rfl ⟨v, rfl, hO, hk⟩
set_option maxRecDepth 20000 in
set_option maxHeartbeats 1000000 in
theorem want_sub (p q : Option Addr) (c d : Nat) (xs ys : List Int) (w : World) (hx : Arr w p xs) (hy : Arr w q ys) (hwx : Wd xs) (hwy : Wd ys) (lx : xs.length < 1099511627775) (ly : ys.length < 1099511627775) (x : Int) (n : Int) :
    Calls Tryd.prog 8 #[.int .i64 7, .slice p xs.length c, .slice q ys.length d, .int .u64 x, .int .i64 n] w fun e w' => ∃ v, e = .returned (.agg #[v, .slice none 0 0, .int .u64 0, .int .i64 0, .bool false, .int .i64 (subN (val xs) (val ys)).2]) ∧ Own w' w.heap.size v (subN (val xs) (val ys)).1 ∧ Kp w w' := by
  obtain ⟨w0, hw0⟩ : ∃ w0, w0 = w.alloc (.cells #[.slice none 0 0, .slice none 0 0, .int .u64 0, .int .i64 0, .bool false, .int .i64 0] 32) := ⟨_, rfl⟩
  have hk00 : Kp w w0 := by rw [hw0]; exact (Kp.refl w).alloc _
  have h := wanted_sub p q c d xs ys w0 (hx.grown hk00) (hy.grown hk00) hwx hwy lx ly n
  obtain ⟨N, hN⟩ : ∃ N, N = xs.length := ⟨_, rfl⟩
  obtain ⟨M, hM⟩ : ∃ M, M = ys.length := ⟨_, rfl⟩
  obtain ⟨R, hR⟩ : ∃ R, R = subN (val xs) (val ys) := ⟨_, rfl⟩
  obtain ⟨ls, er⟩ := R
  rw [← hN, ← hM, ← hR] at h
  rw [← hN, ← hM, ← hR]
  skip
  rw [hw0] at h
  clear hx hy hwx hwy lx ly hN hM hR hw0 hk00
  go_enter Tryd.func8, Tryd.ntmps8
  go_wp2_with fail
  refine h.mono ?_; rintro e w1 ⟨v, rfl, hO, hk⟩
  obtain ⟨p1, cc, rfl, _, _⟩ := hO.arr
  obtain ⟨D, hD⟩ : ∃ D, D = ls.length := ⟨_, rfl⟩
  rw [← hD] at hO ⊢
  clear h hD
  have k0 := kkeep hk (b := w.heap.size) (o := 0) (v := .slice none 0 0) (by simp [go_sem])
  have z0 : w1.frozen? ⟨w.heap.size, 0, none⟩ = false := by rw [Below.frozen hk (by simp)]; simp [go_sem]
  have k1 := kkeep hk (b := w.heap.size) (o := 1) (v := .slice none 0 0) (by simp [go_sem])
  have z1 : w1.frozen? ⟨w.heap.size, 1, none⟩ = false := by rw [Below.frozen hk (by simp)]; simp [go_sem]
  have k2 := kkeep hk (b := w.heap.size) (o := 2) (v := .int .u64 0) (by simp [go_sem])
  have z2 : w1.frozen? ⟨w.heap.size, 2, none⟩ = false := by rw [Below.frozen hk (by simp)]; simp [go_sem]
  have k3 := kkeep hk (b := w.heap.size) (o := 3) (v := .int .i64 0) (by simp [go_sem])
  have z3 : w1.frozen? ⟨w.heap.size, 3, none⟩ = false := by rw [Below.frozen hk (by simp)]; simp [go_sem]
  have k4 := kkeep hk (b := w.heap.size) (o := 4) (v := .bool false) (by simp [go_sem])
  have z4 : w1.frozen? ⟨w.heap.size, 4, none⟩ = false := by rw [Below.frozen hk (by simp)]; simp [go_sem]
  have k5 := kkeep hk (b := w.heap.size) (o := 5) (v := .int .i64 0) (by simp [go_sem])
  have z5 : w1.frozen? ⟨w.heap.size, 5, none⟩ = false := by rw [Below.frozen hk (by simp)]; simp [go_sem]
  have hk0 : Kp w w1 := ((Kp.refl w).alloc _).trans hk
  have hO' : Own ((((((w1.setCell ⟨w.heap.size, 0, none⟩ (.slice p1 D cc)).setCell ⟨w.heap.size, 1, none⟩ (.slice none 0 0)).setCell ⟨w.heap.size, 2, none⟩ (.int .u64 0)).setCell ⟨w.heap.size, 3, none⟩ (.int .i64 0)).setCell ⟨w.heap.size, 4, none⟩ (.bool false)).setCell ⟨w.heap.size, 5, none⟩ (.int .i64 er)) w.heap.size (.slice p1 D cc) ls := Own.mono ((((((hO.setOther (by simp) (.slice p1 D cc)).setOther (by simp) (.slice none 0 0)).setOther (by simp) (.int .u64 0)).setOther (by simp) (.int .i64 0)).setOther (by simp) (.bool false)).setOther (by simp) (.int .i64 er)) (by simp)
  have hK' : Kp w ((((((w1.setCell ⟨w.heap.size, 0, none⟩ (.slice p1 D cc)).setCell ⟨w.heap.size, 1, none⟩ (.slice none 0 0)).setCell ⟨w.heap.size, 2, none⟩ (.int .u64 0)).setCell ⟨w.heap.size, 3, none⟩ (.int .i64 0)).setCell ⟨w.heap.size, 4, none⟩ (.bool false)).setCell ⟨w.heap.size, 5, none⟩ (.int .i64 er)) := ((((((hk0.setCell (Nat.le_refl _) (.slice p1 D cc)).setCell (Nat.le_refl _) (.slice none 0 0)).setCell (Nat.le_refl _) (.int .u64 0)).setCell (Nat.le_refl _) (.int .i64 0)).setCell (Nat.le_refl _) (.bool false)).setCell (Nat.le_refl _) (.int .i64 er))
  clear hO hk hk0
  go_wp2
  exact bodyPost_ret (v := .agg #[.slice p1 D cc, .slice none 0 0, .int .u64 0, .int .i64 0, .bool false, .int .i64 er]) (by simp [results, Tryd.results8, go_sem] <;> simp [go_sem, *]) rfl ⟨_, rfl, hO', hK'⟩
set_option maxRecDepth 20000 in
set_option maxHeartbeats 400000 in
theorem asked_mul (p q : Option Addr) (c d : Nat) (xs ys : List Int) (w : World) (hx : Arr w p xs) (hy : Arr w q ys) (hwx : Wd xs) (hwy : Wd ys) (lx : xs.length < 16777216) (ly : ys.length < 16777216) (hc : xs.length ≤ c) (hd : ys.length ≤ d) (n : Int) :
    Calls Tryd.prog 22 #[.int .i64 8, .slice p xs.length c, .slice q ys.length d, .int .i64 n] w fun e w' => ∃ v, e = .returned (.tuple #[v, .int .i64 (mulN (val xs) (val ys)).2]) ∧ Own w' w.heap.size v (mulN (val xs) (val ys)).1 ∧ Kp w w' := by
  have h := nmul_ p q c d xs ys w hx hy hwx hwy (by omega) (by omega) hc hd
  obtain ⟨N, hN⟩ : ∃ N, N = xs.length := ⟨_, rfl⟩
  obtain ⟨M, hM⟩ : ∃ M, M = ys.length := ⟨_, rfl⟩
  obtain ⟨R, hR⟩ : ∃ R, R = mulN (val xs) (val ys) := ⟨_, rfl⟩
  obtain ⟨ls, er⟩ := R
  rw [← hN, ← hM, ← hR] at h
  rw [← hN, ← hM, ← hR]
  clear hx hy hwx hwy lx ly hN hM hR hc hd
  go_enter Tryd.func22, Tryd.ntmps22
  go_wp2_with fail
  refine h.mono ?_; rintro e w1 ⟨v, rfl, hO, hk⟩
  go_wp2
  exact bodyPost_ret (v := .tuple #[v, .int .i64 er]) (by simp [results, Tryd.results22, go_sem] <;> simp only [*]) rfl ⟨v, rfl, hO, hk⟩
set_option maxRecDepth 20000 in
set_option maxHeartbeats 1000000 in
theorem ask_mul (p q : Option Addr) (c d : Nat) (xs ys : List Int) (w : World) (hx : Arr w p xs) (hy : Arr w q ys) (hwx : Wd xs) (hwy : Wd ys) (lx : xs.length < 16777216) (ly : ys.length < 16777216) (hc : xs.length ≤ c) (hd : ys.length ≤ d) (x : Int) (n : Int) :
    Calls Tryd.prog 7 #[.int .i64 8, .slice p xs.length c, .slice q ys.length d, .int .u64 x, .int .i64 n] w fun e w' => ∃ v, e = .returned (.agg #[v, .slice none 0 0, .int .u64 0, .int .i64 0, .bool false, .int .i64 (mulN (val xs) (val ys)).2]) ∧ Own w' w.heap.size v (mulN (val xs) (val ys)).1 ∧ Kp w w' := by
  obtain ⟨w0, hw0⟩ : ∃ w0, w0 = w.alloc (.cells #[.slice none 0 0, .slice none 0 0, .int .u64 0, .int .i64 0, .bool false, .int .i64 0] 32) := ⟨_, rfl⟩
  have hk00 : Kp w w0 := by rw [hw0]; exact (Kp.refl w).alloc _
  have h := asked_mul p q c d xs ys w0 (hx.grown hk00) (hy.grown hk00) hwx hwy lx ly hc hd n
  obtain ⟨N, hN⟩ : ∃ N, N = xs.length := ⟨_, rfl⟩
  obtain ⟨M, hM⟩ : ∃ M, M = ys.length := ⟨_, rfl⟩
  obtain ⟨R, hR⟩ : ∃ R, R = mulN (val xs) (val ys) := ⟨_, rfl⟩
  obtain ⟨ls, er⟩ := R
  rw [← hN, ← hM, ← hR] at h
  rw [← hN, ← hM, ← hR]
  have hcd := code_ er
  rw [hw0] at h
  clear hx hy hwx hwy lx ly hN hM hR hw0 hk00 hc hd
  go_enter Tryd.func7, Tryd.ntmps7
  go_wp2_with fail
  refine h.mono ?_; rintro e w1 ⟨v, rfl, hO, hk⟩
  obtain ⟨p1, cc, rfl, _, _⟩ := hO.arr
  obtain ⟨D, hD⟩ : ∃ D, D = ls.length := ⟨_, rfl⟩
  rw [← hD] at hO ⊢
  clear h hD
  have k0 := kkeep hk (b := w.heap.size) (o := 0) (v := .slice none 0 0) (by simp [go_sem])
  have z0 : w1.frozen? ⟨w.heap.size, 0, none⟩ = false := by rw [Below.frozen hk (by simp)]; simp [go_sem]
  have k1 := kkeep hk (b := w.heap.size) (o := 1) (v := .slice none 0 0) (by simp [go_sem])
  have z1 : w1.frozen? ⟨w.heap.size, 1, none⟩ = false := by rw [Below.frozen hk (by simp)]; simp [go_sem]
  have k2 := kkeep hk (b := w.heap.size) (o := 2) (v := .int .u64 0) (by simp [go_sem])
  have z2 : w1.frozen? ⟨w.heap.size, 2, none⟩ = false := by rw [Below.frozen hk (by simp)]; simp [go_sem]
  have k3 := kkeep hk (b := w.heap.size) (o := 3) (v := .int .i64 0) (by simp [go_sem])
  have z3 : w1.frozen? ⟨w.heap.size, 3, none⟩ = false := by rw [Below.frozen hk (by simp)]; simp [go_sem]
  have k4 := kkeep hk (b := w.heap.size) (o := 4) (v := .bool false) (by simp [go_sem])
  have z4 : w1.frozen? ⟨w.heap.size, 4, none⟩ = false := by rw [Below.frozen hk (by simp)]; simp [go_sem]
  have k5 := kkeep hk (b := w.heap.size) (o := 5) (v := .int .i64 0) (by simp [go_sem])
  have z5 : w1.frozen? ⟨w.heap.size, 5, none⟩ = false := by rw [Below.frozen hk (by simp)]; simp [go_sem]
  have hk0 : Kp w w1 := ((Kp.refl w).alloc _).trans hk
  have hO' : Own ((((((w1.setCell ⟨w.heap.size, 0, none⟩ (.slice p1 D cc)).setCell ⟨w.heap.size, 1, none⟩ (.slice none 0 0)).setCell ⟨w.heap.size, 2, none⟩ (.int .u64 0)).setCell ⟨w.heap.size, 3, none⟩ (.int .i64 0)).setCell ⟨w.heap.size, 4, none⟩ (.bool false)).setCell ⟨w.heap.size, 5, none⟩ (.int .i64 er)) w.heap.size (.slice p1 D cc) ls := Own.mono ((((((hO.setOther (by simp) (.slice p1 D cc)).setOther (by simp) (.slice none 0 0)).setOther (by simp) (.int .u64 0)).setOther (by simp) (.int .i64 0)).setOther (by simp) (.bool false)).setOther (by simp) (.int .i64 er)) (by simp)
  have hK' : Kp w ((((((w1.setCell ⟨w.heap.size, 0, none⟩ (.slice p1 D cc)).setCell ⟨w.heap.size, 1, none⟩ (.slice none 0 0)).setCell ⟨w.heap.size, 2, none⟩ (.int .u64 0)).setCell ⟨w.heap.size, 3, none⟩ (.int .i64 0)).setCell ⟨w.heap.size, 4, none⟩ (.bool false)).setCell ⟨w.heap.size, 5, none⟩ (.int .i64 er)) := ((((((hk0.setCell (Nat.le_refl _) (.slice p1 D cc)).setCell (Nat.le_refl _) (.slice none 0 0)).setCell (Nat.le_refl _) (.int .u64 0)).setCell (Nat.le_refl _) (.int .i64 0)).setCell (Nat.le_refl _) (.bool false)).setCell (Nat.le_refl _) (.int .i64 er))
  clear hO hk hk0
  go_wp2_with (first | (go_at_call 19; refine (hcd _).mono ?_; rintro e w' ⟨rfl, rfl⟩))
  exact bodyPost_ret (v := .agg #[.slice p1 D cc, .slice none 0 0, .int .u64 0, .int .i64 0, .bool false, .int .i64 er]) (by simp [results, Tryd.results7, go_sem] <;> simp [go_sem, *]) rfl ⟨_, rfl, hO', hK'⟩
set_option maxRecDepth 20000 in
set_option maxHeartbeats 400000 in
theorem wanted_mul (p q : Option Addr) (c d : Nat) (xs ys : List Int) (w : World) (hx : Arr w p xs) (hy : Arr w q ys) (hwx : Wd xs) (hwy : Wd ys) (lx : xs.length < 16777216) (ly : ys.length < 16777216) (n : Int) :
    Calls Tryd.prog 32 #[.int .i64 8, .slice p xs.length c, .slice q ys.length d, .int .i64 n] w fun e w' => ∃ v, e = .returned (.tuple #[v, .int .i64 (mulN (val xs) (val ys)).2]) ∧ Own w' w.heap.size v (mulN (val xs) (val ys)).1 ∧ Kp w w' := by
  have h := rmul_ p q c d xs ys w hx hy hwx hwy (by omega) (by omega)
  obtain ⟨N, hN⟩ : ∃ N, N = xs.length := ⟨_, rfl⟩
  obtain ⟨M, hM⟩ : ∃ M, M = ys.length := ⟨_, rfl⟩
  obtain ⟨R, hR⟩ : ∃ R, R = mulN (val xs) (val ys) := ⟨_, rfl⟩
  obtain ⟨ls, er⟩ := R
  rw [← hN, ← hM, ← hR] at h
  rw [← hN, ← hM, ← hR]
  clear hx hy hwx hwy lx ly hN hM hR
  go_enter Tryd.func32, Tryd.ntmps32
  go_wp2_with fail
  refine h.mono ?_; rintro e w1 ⟨v, rfl, hO, hk⟩
  go_wp2
  exact bodyPost_ret (v := .tuple #[v, .int .i64 er]) (by simp [results, Tryd.results32, go_sem] <;> simp only [*]) rfl ⟨v, rfl, hO, hk⟩
set_option maxRecDepth 20000 in
set_option maxHeartbeats 1000000 in
theorem want_mul (p q : Option Addr) (c d : Nat) (xs ys : List Int) (w : World) (hx : Arr w p xs) (hy : Arr w q ys) (hwx : Wd xs) (hwy : Wd ys) (lx : xs.length < 16777216) (ly : ys.length < 16777216) (x : Int) (n : Int) :
    Calls Tryd.prog 8 #[.int .i64 8, .slice p xs.length c, .slice q ys.length d, .int .u64 x, .int .i64 n] w fun e w' => ∃ v, e = .returned (.agg #[v, .slice none 0 0, .int .u64 0, .int .i64 0, .bool false, .int .i64 (mulN (val xs) (val ys)).2]) ∧ Own w' w.heap.size v (mulN (val xs) (val ys)).1 ∧ Kp w w' := by
  obtain ⟨w0, hw0⟩ : ∃ w0, w0 = w.alloc (.cells #[.slice none 0 0, .slice none 0 0, .int .u64 0, .int .i64 0, .bool false, .int .i64 0] 32) := ⟨_, rfl⟩
  have hk00 : Kp w w0 := by rw [hw0]; exact (Kp.refl w).alloc _
  have h := wanted_mul p q c d xs ys w0 (hx.grown hk00) (hy.grown hk00) hwx hwy lx ly n
  obtain ⟨N, hN⟩ : ∃ N, N = xs.length := ⟨_, rfl⟩
  obtain ⟨M, hM⟩ : ∃ M, M = ys.length := ⟨_, rfl⟩
  obtain ⟨R, hR⟩ : ∃ R, R = mulN (val xs) (val ys) := ⟨_, rfl⟩
  obtain ⟨ls, er⟩ := R
  rw [← hN, ← hM, ← hR] at h
  rw [← hN, ← hM, ← hR]
  skip
  rw [hw0] at h
  clear hx hy hwx hwy lx ly hN hM hR hw0 hk00
  go_enter Tryd.func8, Tryd.ntmps8
  go_wp2_with fail
  refine h.mono ?_; rintro e w1 ⟨v, rfl, hO, hk⟩
  obtain ⟨p1, cc, rfl, _, _⟩ := hO.arr
  obtain ⟨D, hD⟩ : ∃ D, D = ls.length := ⟨_, rfl⟩
  rw [← hD] at hO ⊢
  clear h hD
  have k0 := kkeep hk (b := w.heap.size) (o := 0) (v := .slice none 0 0) (by simp [go_sem])
  have z0 : w1.frozen? ⟨w.heap.size, 0, none⟩ = false := by rw [Below.frozen hk (by simp)]; simp [go_sem]
  have k1 := kkeep hk (b := w.heap.size) (o := 1) (v := .slice none 0 0) (by simp [go_sem])
  have z1 : w1.frozen? ⟨w.heap.size, 1, none⟩ = false := by rw [Below.frozen hk (by simp)]; simp [go_sem]
  have k2 := kkeep hk (b := w.heap.size) (o := 2) (v := .int .u64 0) (by simp [go_sem])
  have z2 : w1.frozen? ⟨w.heap.size, 2, none⟩ = false := by rw [Below.frozen hk (by simp)]; simp [go_sem]
  have k3 := kkeep hk (b := w.heap.size) (o := 3) (v := .int .i64 0) (by simp [go_sem])
  have z3 : w1.frozen? ⟨w.heap.size, 3, none⟩ = false := by rw [Below.frozen hk (by simp)]; simp [go_sem]
  have k4 := kkeep hk (b := w.heap.size) (o := 4) (v := .bool false) (by simp [go_sem])
  have z4 : w1.frozen? ⟨w.heap.size, 4, none⟩ = false := by rw [Below.frozen hk (by simp)]; simp [go_sem]
  have k5 := kkeep hk (b := w.heap.size) (o := 5) (v := .int .i64 0) (by simp [go_sem])
  have z5 : w1.frozen? ⟨w.heap.size, 5, none⟩ = false := by rw [Below.frozen hk (by simp)]; simp [go_sem]
  have hk0 : Kp w w1 := ((Kp.refl w).alloc _).trans hk
  have hO' : Own ((((((w1.setCell ⟨w.heap.size, 0, none⟩ (.slice p1 D cc)).setCell ⟨w.heap.size, 1, none⟩ (.slice none 0 0)).setCell ⟨w.heap.size, 2, none⟩ (.int .u64 0)).setCell ⟨w.heap.size, 3, none⟩ (.int .i64 0)).setCell ⟨w.heap.size, 4, none⟩ (.bool false)).setCell ⟨w.heap.size, 5, none⟩ (.int .i64 er)) w.heap.size (.slice p1 D cc) ls := Own.mono ((((((hO.setOther (by simp) (.slice p1 D cc)).setOther (by simp) (.slice none 0 0)).setOther (by simp) (.int .u64 0)).setOther (by simp) (.int .i64 0)).setOther (by simp) (.bool false)).setOther (by simp) (.int .i64 er)) (by simp)
  have hK' : Kp w ((((((w1.setCell ⟨w.heap.size, 0, none⟩ (.slice p1 D cc)).setCell ⟨w.heap.size, 1, none⟩ (.slice none 0 0)).setCell ⟨w.heap.size, 2, none⟩ (.int .u64 0)).setCell ⟨w.heap.size, 3, none⟩ (.int .i64 0)).setCell ⟨w.heap.size, 4, none⟩ (.bool false)).setCell ⟨w.heap.size, 5, none⟩ (.int .i64 er)) := ((((((hk0.setCell (Nat.le_refl _) (.slice p1 D cc)).setCell (Nat.le_refl _) (.slice none 0 0)).setCell (Nat.le_refl _) (.int .u64 0)).setCell (Nat.le_refl _) (.int .i64 0)).setCell (Nat.le_refl _) (.bool false)).setCell (Nat.le_refl _) (.int .i64 er))
  clear hO hk hk0
  go_wp2
  exact bodyPost_ret (v := .agg #[.slice p1 D cc, .slice none 0 0, .int .u64 0, .int .i64 0, .bool false, .int .i64 er]) (by simp [results, Tryd.results8, go_sem] <;> simp [go_sem, *]) rfl ⟨_, rfl, hO', hK'⟩
set_option maxRecDepth 20000 in
set_option maxHeartbeats 400000 in
theorem asked_pow (p q : Option Addr) (c d : Nat) (xs ys : List Int) (w : World) (hx : Arr w p xs) (hy : Arr w q ys) (hwx : Wd xs) (hwy : Wd ys) (lx : xs.length < 16777216) (ly : ys.length < 16777216) (hc : xs.length ≤ c) (hd : ys.length ≤ d) (n : Int) :
    Calls Tryd.prog 22 #[.int .i64 11, .slice p xs.length c, .slice q ys.length d, .int .i64 n] w fun e w' => ∃ v, e = .returned (.tuple #[v, .int .i64 (powN (val xs) n).2]) ∧ Own w' w.heap.size v (powN (val xs) n).1 ∧ Kp w w' := by
  have h := (fun (_ : Arr w q ys) (_ : Wd ys) (_ : ys.length < 16777216) (_ : ys.length ≤ d) => npow_ p c xs w n hx hwx (by omega) hc) hy hwy ly hd
  obtain ⟨N, hN⟩ : ∃ N, N = xs.length := ⟨_, rfl⟩
  obtain ⟨M, hM⟩ : ∃ M, M = ys.length := ⟨_, rfl⟩
  obtain ⟨R, hR⟩ : ∃ R, R = powN (val xs) n := ⟨_, rfl⟩
  obtain ⟨ls, er⟩ := R
  rw [← hN, ← hR] at h
  rw [← hN, ← hM, ← hR]
  clear hx hy hwx hwy lx ly hN hM hR hc hd
  go_enter Tryd.func22, Tryd.ntmps22
  go_wp2_with fail
  refine h.mono ?_; rintro e w1 ⟨v, rfl, hO, hk⟩
  go_wp2
  exact bodyPost_ret (v := .tuple #[v, .int .i64 er]) (by simp [results, Tryd.results22, go_sem] <;> simp only [*]) rfl ⟨v, rfl, hO, hk⟩
set_option maxRecDepth 20000 in
set_option maxHeartbeats 1000000 in
theorem ask_pow (p q : Option Addr) (c d : Nat) (xs ys : List Int) (w : World) (hx : Arr w p xs) (hy : Arr w q ys) (hwx : Wd xs) (hwy : Wd ys) (lx : xs.length < 16777216) (ly : ys.length < 16777216) (hc : xs.length ≤ c) (hd : ys.length ≤ d) (x : Int) (n : Int) :
    Calls Tryd.prog 7 #[.int .i64 11, .slice p xs.length c, .slice q ys.length d, .int .u64 x, .int .i64 n] w fun e w' => ∃ v, e = .returned (.agg #[v, .slice none 0 0, .int .u64 0, .int .i64 0, .bool false, .int .i64 (powN (val xs) n).2]) ∧ Own w' w.heap.size v (powN (val xs) n).1 ∧ Kp w w' := by
  obtain ⟨w0, hw0⟩ : ∃ w0, w0 = w.alloc (.cells #[.slice none 0 0, .slice none 0 0, .int .u64 0, .int .i64 0, .bool false, .int .i64 0] 32) := ⟨_, rfl⟩
  have hk00 : Kp w w0 := by rw [hw0]; exact (Kp.refl w).alloc _
  have h := asked_pow p q c d xs ys w0 (hx.grown hk00) (hy.grown hk00) hwx hwy lx ly hc hd n
  obtain ⟨N, hN⟩ : ∃ N, N = xs.length := ⟨_, rfl⟩
  obtain ⟨M, hM⟩ : ∃ M, M = ys.length := ⟨_, rfl⟩
  obtain ⟨R, hR⟩ : ∃ R, R = powN (val xs) n := ⟨_, rfl⟩
  obtain ⟨ls, er⟩ := R
  rw [← hN, ← hM, ← hR] at h
  rw [← hN, ← hM, ← hR]
  have hcd := code_ er
  rw [hw0] at h
  clear hx hy hwx hwy lx ly hN hM hR hw0 hk00 hc hd
  go_enter Tryd.func7, Tryd.ntmps7
  go_wp2_with fail
  refine h.mono ?_; rintro e w1 ⟨v, rfl, hO, hk⟩
  obtain ⟨p1, cc, rfl, _, _⟩ := hO.arr
  obtain ⟨D, hD⟩ : ∃ D, D = ls.length := ⟨_, rfl⟩
  rw [← hD] at hO ⊢
  clear h hD
  have k0 := kkeep hk (b := w.heap.size) (o := 0) (v := .slice none 0 0) (by simp [go_sem])
  have z0 : w1.frozen? ⟨w.heap.size, 0, none⟩ = false := by rw [Below.frozen hk (by simp)]; simp [go_sem]
  have k1 := kkeep hk (b := w.heap.size) (o := 1) (v := .slice none 0 0) (by simp [go_sem])
  have z1 : w1.frozen? ⟨w.heap.size, 1, none⟩ = false := by rw [Below.frozen hk (by simp)]; simp [go_sem]
  have k2 := kkeep hk (b := w.heap.size) (o := 2) (v := .int .u64 0) (by simp [go_sem])
  have z2 : w1.frozen? ⟨w.heap.size, 2, none⟩ = false := by rw [Below.frozen hk (by simp)]; simp [go_sem]
  have k3 := kkeep hk (b := w.heap.size) (o := 3) (v := .int .i64 0) (by simp [go_sem])
  have z3 : w1.frozen? ⟨w.heap.size, 3, none⟩ = false := by rw [Below.frozen hk (by simp)]; simp [go_sem]
  have k4 := kkeep hk (b := w.heap.size) (o := 4) (v := .bool false) (by simp [go_sem])
  have z4 : w1.frozen? ⟨w.heap.size, 4, none⟩ = false := by rw [Below.frozen hk (by simp)]; simp [go_sem]
  have k5 := kkeep hk (b := w.heap.size) (o := 5) (v := .int .i64 0) (by simp [go_sem])
  have z5 : w1.frozen? ⟨w.heap.size, 5, none⟩ = false := by rw [Below.frozen hk (by simp)]; simp [go_sem]
  have hk0 : Kp w w1 := ((Kp.refl w).alloc _).trans hk
  have hO' : Own ((((((w1.setCell ⟨w.heap.size, 0, none⟩ (.slice p1 D cc)).setCell ⟨w.heap.size, 1, none⟩ (.slice none 0 0)).setCell ⟨w.heap.size, 2, none⟩ (.int .u64 0)).setCell ⟨w.heap.size, 3, none⟩ (.int .i64 0)).setCell ⟨w.heap.size, 4, none⟩ (.bool false)).setCell ⟨w.heap.size, 5, none⟩ (.int .i64 er)) w.heap.size (.slice p1 D cc) ls := Own.mono ((((((hO.setOther (by simp) (.slice p1 D cc)).setOther (by simp) (.slice none 0 0)).setOther (by simp) (.int .u64 0)).setOther (by simp) (.int .i64 0)).setOther (by simp) (.bool false)).setOther (by simp) (.int .i64 er)) (by simp)
  have hK' : Kp w ((((((w1.setCell ⟨w.heap.size, 0, none⟩ (.slice p1 D cc)).setCell ⟨w.heap.size, 1, none⟩ (.slice none 0 0)).setCell ⟨w.heap.size, 2, none⟩ (.int .u64 0)).setCell ⟨w.heap.size, 3, none⟩ (.int .i64 0)).setCell ⟨w.heap.size, 4, none⟩ (.bool false)).setCell ⟨w.heap.size, 5, none⟩ (.int .i64 er)) := ((((((hk0.setCell (Nat.le_refl _) (.slice p1 D cc)).setCell (Nat.le_refl _) (.slice none 0 0)).setCell (Nat.le_refl _) (.int .u64 0)).setCell (Nat.le_refl _) (.int .i64 0)).setCell (Nat.le_refl _) (.bool false)).setCell (Nat.le_refl _) (.int .i64 er))
  clear hO hk hk0
  go_wp2_with (first | (go_at_call 19; refine (hcd _).mono ?_; rintro e w' ⟨rfl, rfl⟩))
  exact bodyPost_ret (v := .agg #[.slice p1 D cc, .slice none 0 0, .int .u64 0, .int .i64 0, .bool false, .int .i64 er]) (by simp [results, Tryd.results7, go_sem] <;> simp [go_sem, *]) rfl ⟨_, rfl, hO', hK'⟩
set_option maxRecDepth 20000 in
set_option maxHeartbeats 400000 in
theorem wanted_pow (p q : Option Addr) (c d : Nat) (xs ys : List Int) (w : World) (hx : Arr w p xs) (hy : Arr w q ys) (hwx : Wd xs) (hwy : Wd ys) (lx : xs.length < 16777216) (ly : ys.length < 16777216) (n : Int) :
    Calls Tryd.prog 32 #[.int .i64 11, .slice p xs.length c, .slice q ys.length d, .int .i64 n] w fun e w' => ∃ v, e = .returned (.tuple #[v, .int .i64 (powN (val xs) n).2]) ∧ Own w' w.heap.size v (powN (val xs) n).1 ∧ Kp w w' := by
  have h := (fun (_ : Arr w q ys) (_ : Wd ys) (_ : ys.length < 16777216) => rpow_ p c xs w n hx hwx (by omega)) hy hwy ly
  obtain ⟨N, hN⟩ : ∃ N, N = xs.length := ⟨_, rfl⟩
  obtain ⟨M, hM⟩ : ∃ M, M = ys.length := ⟨_, rfl⟩
  obtain ⟨R, hR⟩ : ∃ R, R = powN (val xs) n := ⟨_, rfl⟩
  obtain ⟨ls, er⟩ := R
  rw [← hN, ← hR] at h
  rw [← hN, ← hM, ← hR]
  clear hx hy hwx hwy lx ly hN hM hR
  go_enter Tryd.func32, Tryd.ntmps32
  go_wp2_with fail
  refine h.mono ?_; rintro e w1 ⟨v, rfl, hO, hk⟩
  go_wp2
  exact bodyPost_ret (v := .tuple #[v, .int .i64 er]) (by simp [results, Tryd.results32, go_sem] <;> simp only [*]) rfl ⟨v, rfl, hO, hk⟩
set_option maxRecDepth 20000 in
set_option maxHeartbeats 1000000 in
theorem want_pow (p q : Option Addr) (c d : Nat) (xs ys : List Int) (w : World) (hx : Arr w p xs) (hy : Arr w q ys) (hwx : Wd xs) (hwy : Wd ys) (lx : xs.length < 16777216) (ly : ys.length < 16777216) (x : Int) (n : Int) :
    Calls Tryd.prog 8 #[.int .i64 11, .slice p xs.length c, .slice q ys.length d, .int .u64 x, .int .i64 n] w fun e w' => ∃ v, e = .returned (.agg #[v, .slice none 0 0, .int .u64 0, .int .i64 0, .bool false, .int .i64 (powN (val xs) n).2]) ∧ Own w' w.heap.size v (powN (val xs) n).1 ∧ Kp w w' := by
  obtain ⟨w0, hw0⟩ : ∃ w0, w0 = w.alloc (.cells #[.slice none 0 0, .slice none 0 0, .int .u64 0, .int .i64 0, .bool false, .int .i64 0] 32) := ⟨_, rfl⟩
  have hk00 : Kp w w0 := by rw [hw0]; exact (Kp.refl w).alloc _
  have h := wanted_pow p q c d xs ys w0 (hx.grown hk00) (hy.grown hk00) hwx hwy lx ly n
  obtain ⟨N, hN⟩ : ∃ N, N = xs.length := ⟨_, rfl⟩
  obtain ⟨M, hM⟩ : ∃ M, M = ys.length := ⟨_, rfl⟩
  obtain ⟨R, hR⟩ : ∃ R, R = powN (val xs) n := ⟨_, rfl⟩
  obtain ⟨ls, er⟩ := R
  rw [← hN, ← hM, ← hR] at h
  rw [← hN, ← hM, ← hR]
  skip
  rw [hw0] at h
  clear hx hy hwx hwy lx ly hN hM hR hw0 hk00
  go_enter Tryd.func8, Tryd.ntmps8
  go_wp2_with fail
  refine h.mono ?_; rintro e w1 ⟨v, rfl, hO, hk⟩
  obtain ⟨p1, cc, rfl, _, _⟩ := hO.arr
  obtain ⟨D, hD⟩ : ∃ D, D = ls.length := ⟨_, rfl⟩
  rw [← hD] at hO ⊢
  clear h hD
  have k0 := kkeep hk (b := w.heap.size) (o := 0) (v := .slice none 0 0) (by simp [go_sem])
  have z0 : w1.frozen? ⟨w.heap.size, 0, none⟩ = false := by rw [Below.frozen hk (by simp)]; simp [go_sem]
  have k1 := kkeep hk (b := w.heap.size) (o := 1) (v := .slice none 0 0) (by simp [go_sem])
  have z1 : w1.frozen? ⟨w.heap.size, 1, none⟩ = false := by rw [Below.frozen hk (by simp)]; simp [go_sem]
  have k2 := kkeep hk (b := w.heap.size) (o := 2) (v := .int .u64 0) (by simp [go_sem])
  have z2 : w1.frozen? ⟨w.heap.size, 2, none⟩ = false := by rw [Below.frozen hk (by simp)]; simp [go_sem]
  have k3 := kkeep hk (b := w.heap.size) (o := 3) (v := .int .i64 0) (by simp [go_sem])
  have z3 : w1.frozen? ⟨w.heap.size, 3, none⟩ = false := by rw [Below.frozen hk (by simp)]; simp [go_sem]
  have k4 := kkeep hk (b := w.heap.size) (o := 4) (v := .bool false) (by simp [go_sem])
  have z4 : w1.frozen? ⟨w.heap.size, 4, none⟩ = false := by rw [Below.frozen hk (by simp)]; simp [go_sem]
  have k5 := kkeep hk (b := w.heap.size) (o := 5) (v := .int .i64 0) (by simp [go_sem])
  have z5 : w1.frozen? ⟨w.heap.size, 5, none⟩ = false := by rw [Below.frozen hk (by simp)]; simp [go_sem]
  have hk0 : Kp w w1 := ((Kp.refl w).alloc _).trans hk
  have hO' : Own ((((((w1.setCell ⟨w.heap.size, 0, none⟩ (.slice p1 D cc)).setCell ⟨w.heap.size, 1, none⟩ (.slice none 0 0)).setCell ⟨w.heap.size, 2, none⟩ (.int .u64 0)).setCell ⟨w.heap.size, 3, none⟩ (.int .i64 0)).setCell ⟨w.heap.size, 4, none⟩ (.bool false)).setCell ⟨w.heap.size, 5, none⟩ (.int .i64 er)) w.heap.size (.slice p1 D cc) ls := Own.mono ((((((hO.setOther (by simp) (.slice p1 D cc)).setOther (by simp) (.slice none 0 0)).setOther (by simp) (.int .u64 0)).setOther (by simp) (.int .i64 0)).setOther (by simp) (.bool false)).setOther (by simp) (.int .i64 er)) (by simp)
  have hK' : Kp w ((((((w1.setCell ⟨w.heap.size, 0, none⟩ (.slice p1 D cc)).setCell ⟨w.heap.size, 1, none⟩ (.slice none 0 0)).setCell ⟨w.heap.size, 2, none⟩ (.int .u64 0)).setCell ⟨w.heap.size, 3, none⟩ (.int .i64 0)).setCell ⟨w.heap.size, 4, none⟩ (.bool false)).setCell ⟨w.heap.size, 5, none⟩ (.int .i64 er)) := ((((((hk0.setCell (Nat.le_refl _) (.slice p1 D cc)).setCell (Nat.le_refl _) (.slice none 0 0)).setCell (Nat.le_refl _) (.int .u64 0)).setCell (Nat.le_refl _) (.int .i64 0)).setCell (Nat.le_refl _) (.bool false)).setCell (Nat.le_refl _) (.int .i64 er))
  clear hO hk hk0
  go_wp2
  exact bodyPost_ret (v := .agg #[.slice p1 D cc, .slice none 0 0, .int .u64 0, .int .i64 0, .bool false, .int .i64 er]) (by simp [results, Tryd.results8, go_sem] <;> simp [go_sem, *]) rfl ⟨_, rfl, hO', hK'⟩
end Go.Proofs.YtjblehmafjcncaaDoor
