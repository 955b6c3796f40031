import Derived.Test.YtnjlcfpkhgmjeaaGreatDoorKTOm
import Derived.Test.YtnjlcfpkhgmjeaaGreatDoorKXA0
import Derived.Deep.Cut
import Derived.Deep.MidRow
import Derived.Deep.RegionHeld3
import Derived.Deep.RegionWith
import Derived.Deep.WholeRow
import Derived.Laws.Bits64
import Derived.Laws.Externs
import Derived.Lib.Zigzag
namespace Go.Proofs.YtnjlcfpkhgmjeaaGreatDoor
open Go.RowKit

def wc (ws : List Nat) : Array Value := (ws.map (fun x : Nat => Value.int .u64 (x : Int))).toArray
theorem wc_size (ws : List Nat) : (wc ws).size = ws.length := by simp [wc]
theorem wc_get (ws : List Nat) (j : Nat) (h : j < ws.length) : (wc ws)[j]? = some (.int .u64 ((ws.getD j 0 : Nat) : Int)) := by
  simp [wc, List.getD, h]
theorem wc_one (ws : List Nat) : (wc ws).all (·.oneCell') = true := by
  simp [wc, Value.oneCell']
theorem infoW : (Tryz.prog.info? 53).map (·.size) = some 67 := by kernel_rfl
theorem undW : Tryz.prog.underlying 53 = some (.array 67 22) := by kernel_rfl
def Bk (w : World) (b : Nat) (C : Array Value) (t : TypeId) : Prop := w.heap[b]? = some (.cells C t (0, 0))
theorem Bk.lt {w : World} {b : Nat} {C : Array Value} {t : TypeId} (h : Bk w b C t) : b < w.heap.size := by
  rcases Nat.lt_or_ge b w.heap.size with c | c
  · exact c
  · unfold Bk at h; rw [Array.getElem?_eq_none c] at h; cases h
theorem Bk.cell {w : World} {b : Nat} {C : Array Value} {t : TypeId} (h : Bk w b C t) (j : Nat) : w.cell? ⟨b, j, none⟩ = C[j]? := cell_of_row w b j C t (0, 0) h
theorem Bk.frozen {w : World} {b : Nat} {C : Array Value} {t : TypeId} (h : Bk w b C t) (j : Nat) : w.frozen? ⟨b, j, none⟩ = false := by
  unfold Bk at h
  simp [World.frozen?, h]
theorem Bk.new (w : World) (C : Array Value) (t : TypeId) : Bk (w.alloc (.cells C t)) w.heap.size C t := heap_alloc_last w _
theorem Bk.newAt {w : World} {b : Nat} (hb : b = w.heap.size) (C : Array Value) (t : TypeId) : Bk (w.alloc (.cells C t)) b C t := by rw [hb]; exact Bk.new w C t
theorem Bk.drew {w : World} {b : Nat} {C : Array Value} {t : TypeId} (h : Bk w b C t) : Bk w.drew b C t := h
theorem Bk.put {w : World} {b : Nat} {C : Array Value} {t : TypeId} (h : Bk w b C t) (j : Nat) (v : Value) : Bk (w.setCell ⟨b, j, none⟩ v) b (C.setIfInBounds j v) t := by
  unfold Bk at h ⊢
  simp [World.setCell, Array.getElem?_modify, h]
theorem Bk.far {w : World} {b : Nat} {C : Array Value} {t : TypeId} (h : Bk w b C t) (x : Addr) (v : Value) (hne : x.block ≠ b) : Bk (w.setCell x v) b C t := by
  unfold Bk at h ⊢
  simp [World.setCell, Array.getElem?_modify, hne, h]
theorem Bk.kp {w w' : World} {b : Nat} {C : Array Value} {t : TypeId} (h : Bk w b C t) (k : Kp w w') : Bk w' b C t := (Below.block k b h.lt).trans h
theorem Bk.alloc {w : World} {b : Nat} {C : Array Value} {t : TypeId} (h : Bk w b C t) (o : Obj) : Bk (w.alloc o) b C t := h.kp ((Kp.refl w).alloc o)
theorem Kb.of {g : Nat} {w w' : World} (k : Kp w w') : Kb g w w' := ⟨k.os, k.tape, k.output, k.size, fun i hi _ => Below.block k i hi⟩
theorem Kb.drew {g : Nat} {w w' : World} (k : Kb g w w') : Kb g w w'.drew := k
theorem Kb.trans {g : Nat} {a b c : World} (h : Kb g a b) (k : Kb g b c) : Kb g a c := ⟨k.1.trans h.1, k.2.1.trans h.2.1, k.2.2.1.trans h.2.2.1, Nat.le_trans h.2.2.2.1 k.2.2.2.1, fun i hi hne => (k.2.2.2.2 i (Nat.lt_of_lt_of_le hi h.2.2.2.1) hne).trans (h.2.2.2.2 i hi hne)⟩
theorem Bk.kb {w w' : World} {b g : Nat} {C : Array Value} {t : TypeId} (h : Bk w b C t) (k : Kb g w w') (hne : b ≠ g) : Bk w' b C t := (k.2.2.2.2 b h.lt hne).trans h
theorem Bk.word {w : World} {b : Nat} {ws : List Nat} {X : Array Value} {t : TypeId} (h : Bk w b (wc ws ++ X) t) (j : Nat) (hj : j < ws.length) : w.cell? ⟨b, j, none⟩ = some (.int .u64 ((ws.getD j 0 : Nat) : Int)) := by
  rw [h.cell j, Array.getElem?_append_left (by rw [wc_size]; exact hj), wc_get ws j hj]
theorem wc_set (ws : List Nat) (j x : Nat) : (wc ws).setIfInBounds j (.int .u64 (x : Int)) = wc (ws.set j x) := by
  simp [wc, List.map_set]
theorem Bk.setw {w : World} {b : Nat} {ws : List Nat} {X : Array Value} {t : TypeId} (h : Bk w b (wc ws ++ X) t) (j x : Nat) (hj : j < ws.length) : Bk (w.setCell ⟨b, j, none⟩ (.int .u64 (x : Int))) b (wc (ws.set j x) ++ X) t := by
  have q := h.put j (.int .u64 (x : Int))
  rwa [Array.setIfInBounds_append_left (by rw [wc_size]; exact hj), wc_set] at q
set_option maxRecDepth 20000 in
set_option maxHeartbeats 400000 in
theorem below_ (ws : List Nat) (hl : ws.length = 67) (hf : Wf ws) (w : World) : Calls Tryz.prog 83 #[.agg (wc ws)] w fun e w' => e = .returned (.bool (decide (9223372036854775808 ≤ ws.getD 66 0))) ∧ Kp w w' := by
  have hs := wc_size ws
  rw [hl] at hs
  have hg := wc_get ws 66 (by omega)
  have hf6 := hf 66
  generalize ws.getD 66 0 = x at *
  generalize wc ws = C at *
  have hg2 : ∀ (h : 66 < C.size), C[66]'h = .int .u64 (x : Int) := fun h => by
    rw [Array.getElem?_eq_getElem h] at hg; exact Option.some.inj hg
  clear hg hf hl
  obtain ⟨t, ht⟩ : ∃ t : Bool, t = decide (0 < (x : Int) / 9223372036854775808) := ⟨_, rfl⟩
  have e : decide (9223372036854775808 ≤ x) = t := by rw [ht]; congr 1; apply propext; omega
  rw [e]
  clear e
  go_enter Tryz.func83, Tryz.ntmps83
  go_wp2
  simp only [← ht]
  exact bodyPost_ret (v := .bool t) (by simp [results, Tryz.results83, go_sem]) rfl ⟨rfl, (by repeat (with_reducible (first | assumption | exact Kp.refl _ | apply Kp.drew | apply Kp.alloc | apply Kp.drewN | (refine Kp.setCell ?_ (by first | omega | (simp <;> omega)) _) | (refine Kp.trans ?_ (by assumption)))))⟩

theorem add64_ (x y c : Nat) (hc : c ≤ 1) (w : World) : (callFunc 81 #[.int .u64 (x : Int), .int .u64 (y : Int), .int .u64 (c : Int)]).run Tryz.prog w = .ok (.value (.tuple #[.int .u64 (((x + y + c) % 18446744073709551616 : Nat) : Int), .int .u64 (((x + y + c) / 18446744073709551616 : Nat) : Int)])) w := by
  rw [run_callFunc_extern Tryz.func81 (by kernel_rfl) (by kernel_rfl) (by kernel_rfl) (e := add64Entry) (by kernel_rfl), run_add64 x y c (by omega) (by omega) (by omega) (by omega)]
  simp only [Result.andThen]
  congr 5 <;> omega
theorem xor0 (a : Nat) (h : a < 18446744073709551616) : bits .xor .u64 (a : Int) 0 = (a : Int) := by
  have := bits_xor_u64_nat a 0 h (by decide)
  simpa using this
theorem xorM (a : Nat) (h : a < 18446744073709551616) : bits .xor .u64 (a : Int) 18446744073709551615 = ((18446744073709551615 - a : Nat) : Int) := by
  have := bits_xor_u64_nat a 18446744073709551615 h (by decide)
  rw [Nat.xor_comm, Lib.xor_ones64 a h] at this
  exact this
theorem xorN (a : Nat) (h : a < 18446744073709551616) : bits .xor .u64 IntKind.u64.max (a : Int) = ((18446744073709551615 - a : Nat) : Int) := by
  show bits .xor .u64 18446744073709551615 (a : Int) = _
  have := bits_xor_u64_nat 18446744073709551615 a (by decide) h
  rw [Lib.xor_ones64 a h] at this
  exact this
def fli (neg : Bool) : Nat := if neg then 18446744073709551615 else 0
def sgI (neg : Bool) : Int := if neg then -1 else 1
set_option maxRecDepth 20000 in
set_option maxHeartbeats 400000 in
theorem flipOf_ (neg : Bool) (w : World) : Calls Tryz.prog 76 #[.bool neg] w fun e w' => e = .returned (.int .u64 ((fli neg : Nat) : Int)) ∧ w' = w := by
  cases neg
  · go_enter Tryz.func76, Tryz.ntmps76
    go_wp2
    exact bodyPost_ret (v := .int .u64 0) (by simp [results, Tryz.results76, go_sem]) rfl ⟨rfl, rfl⟩
  · go_enter Tryz.func76, Tryz.ntmps76
    go_wp2
    exact bodyPost_ret (v := .int .u64 18446744073709551615) (by simp [results, Tryz.results76, go_sem]) rfl ⟨rfl, rfl⟩
set_option maxRecDepth 20000 in
set_option maxHeartbeats 400000 in
theorem step_ (neg : Bool) (y p c : Nat) (hy : y < 18446744073709551616) (hp : p < 18446744073709551616) (hc : c ≤ 1) : ∃ x c2 : Nat, x < 18446744073709551616 ∧ c2 ≤ 1 ∧ (x : Int) + sgI neg * 18446744073709551616 * (c2 : Int) = (y : Int) + sgI neg * ((p : Int) + (c : Int)) ∧ ∀ w : World, Calls Tryz.prog 77 #[.int .u64 (y : Int), .int .u64 (p : Int), .int .u64 (c : Int), .int .u64 ((fli neg : Nat) : Int)] w fun e w' => e = .returned (.tuple #[.int .u64 (x : Int), .int .u64 (c2 : Int)]) ∧ w' = w := by
  cases neg
  · refine ⟨(y + p + c) % 18446744073709551616, (y + p + c) / 18446744073709551616, Nat.mod_lt _ (by decide), step_c y p c hy hp hc, step_plus y p c, fun w => ?_⟩
    have had := add64_ y p c hc
    have x1 := xor0 y hy
    have x2 := xor0 ((y + p + c) % 18446744073709551616) (Nat.mod_lt _ (by decide))
    generalize (y + p + c) % 18446744073709551616 = x at *
    generalize (y + p + c) / 18446744073709551616 = c2 at *
    show Calls Tryz.prog 77 #[.int .u64 (y : Int), .int .u64 (p : Int), .int .u64 (c : Int), .int .u64 0] w _
    clear hy hp hc
    go_enter Tryz.func77, Tryz.ntmps77
    go_wp2
    exact bodyPost_ret (v := .tuple #[.int .u64 (x : Int), .int .u64 (c2 : Int)]) (by simp [results, Tryz.results77, go_sem]) rfl ⟨rfl, rfl⟩
  · refine ⟨18446744073709551615 - (18446744073709551615 - y + p + c) % 18446744073709551616, (18446744073709551615 - y + p + c) / 18446744073709551616, by omega, step_c _ p c (by omega) hp hc, step_minus y p c hy, fun w => ?_⟩
    have had := add64_ (18446744073709551615 - y) p c hc
    have x1 := xorM y hy
    have x2 := xorM ((18446744073709551615 - y + p + c) % 18446744073709551616) (Nat.mod_lt _ (by decide))
    generalize (18446744073709551615 - y + p + c) % 18446744073709551616 = x at *
    generalize (18446744073709551615 - y + p + c) / 18446744073709551616 = c2 at *
    generalize 18446744073709551615 - y = y2 at *
    generalize 18446744073709551615 - x = x3 at *
    show Calls Tryz.prog 77 #[.int .u64 (y : Int), .int .u64 (p : Int), .int .u64 (c : Int), .int .u64 18446744073709551615] w _
    clear hy hp hc
    go_enter Tryz.func77, Tryz.ntmps77
    go_wp2
    exact bodyPost_ret (v := .tuple #[.int .u64 (x3 : Int), .int .u64 (c2 : Int)]) (by simp [results, Tryz.results77, go_sem]) rfl ⟨rfl, rfl⟩
end Go.Proofs.YtnjlcfpkhgmjeaaGreatDoor
