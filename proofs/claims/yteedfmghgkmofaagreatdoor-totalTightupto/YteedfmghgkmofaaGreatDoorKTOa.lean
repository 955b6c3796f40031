import Derived.Test.YteedfmghgkmofaaGreatDoorKTOm
import Derived.Test.YteedfmghgkmofaaGreatDoorKXA0
import Derived.Deep.Cut
import Derived.Deep.MidRow
import Derived.Deep.RegionHeld3
import Derived.Deep.RegionWith
import Derived.Deep.WholeRow
import Derived.Laws.Bits64
import Derived.Laws.Externs
import Derived.Lib.Zigzag
namespace Go.Proofs.YteedfmghgkmofaaGreatDoor
open Go.RowKit

def wc (ws : List Nat) : Array Value := (ws.map (fun x : Nat => Value.int .u64 (x : Int))).toArray
theorem wc_size (ws : List Nat) : (wc ws).size = ws.length := by simp [wc]
theorem wc_get (ws : List Nat) (j : Nat) (h : j < ws.length) : (wc ws)[j]? = some (.int .u64 ((ws.getD j 0 : Nat) : Int)) := by
  simp [wc, List.getD, h]
theorem wc_one (ws : List Nat) : (wc ws).all (·.oneCell') = true := by
  simp [wc, Value.oneCell']
theorem infoW : (Tryz.prog.info? 52).map (·.size) = some 67 := by kernel_rfl
theorem undW : Tryz.prog.underlying 52 = some (.array 67 25) := by kernel_rfl
def Bk (w : World) (b : Nat) (C : Array Value) (t : TypeId) : Prop := w.heap[b]? = some (.cells C t (0, 0))
theorem Bk.lt {w : World} {b : Nat} {C : Array Value} {t : TypeId} (h : Bk w b C t) : b < w.heap.size := by
  rcases Nat.lt_or_ge b w.heap.size with c | c
  · exact c
  · unfold Bk at h; rw [Array.getElem?_eq_none c] at h; cases h
theorem Bk.cell {w : World} {b : Nat} {C : Array Value} {t : TypeId} (h : Bk w b C t) (j : Nat) : w.cell? ⟨b, j, none⟩ = C[j]? := cell_of_row w b j C t (0, 0) h
theorem Bk.frozen {w : World} {b : Nat} {C : Array Value} {t : TypeId} (h : Bk w b C t) (j : Nat) : w.frozen? ⟨b, j, none⟩ = false := by
  unfold Bk at h
  simp [World.frozen?, h]
theorem Bk.new (w : World) (C : Array Value) (t : TypeId) : Bk (w.alloc (.cells C t)) w.heap.size C t := heap_alloc_last w _
theorem Bk.newAt {w : World} {b : Nat} (hb : b = w.heap.size) (C : Array Value) (t : TypeId) : Bk (w.alloc (.cells C t)) b C t := by rw [hb]; exact Bk.new w C t
theorem Bk.drew {w : World} {b : Nat} {C : Array Value} {t : TypeId} (h : Bk w b C t) : Bk w.drew b C t := h
theorem Bk.put {w : World} {b : Nat} {C : Array Value} {t : TypeId} (h : Bk w b C t) (j : Nat) (v : Value) : Bk (w.setCell ⟨b, j, none⟩ v) b (C.setIfInBounds j v) t := by
  unfold Bk at h ⊢
  simp [World.setCell, Array.getElem?_modify, h]
theorem Bk.far {w : World} {b : Nat} {C : Array Value} {t : TypeId} (h : Bk w b C t) (x : Addr) (v : Value) (hne : x.block ≠ b) : Bk (w.setCell x v) b C t := by
  unfold Bk at h ⊢
  simp [World.setCell, Array.getElem?_modify, hne, h]
theorem Bk.kp {w w' : World} {b : Nat} {C : Array Value} {t : TypeId} (h : Bk w b C t) (k : Kp w w') : Bk w' b C t := (Below.block k b h.lt).trans h
theorem Bk.alloc {w : World} {b : Nat} {C : Array Value} {t : TypeId} (h : Bk w b C t) (o : Obj) : Bk (w.alloc o) b C t := h.kp ((Kp.refl w).alloc o)
theorem Kb.of {g : Nat} {w w' : World} (k : Kp w w') : Kb g w w' := ⟨k.os, k.tape, k.output, k.size, fun i hi _ => Below.block k i hi⟩
theorem Kb.drew {g : Nat} {w w' : World} (k : Kb g w w') : Kb g w w'.drew := k
theorem Kb.trans {g : Nat} {a b c : World} (h : Kb g a b) (k : Kb g b c) : Kb g a c := ⟨k.1.trans h.1, k.2.1.trans h.2.1, k.2.2.1.trans h.2.2.1, Nat.le_trans h.2.2.2.1 k.2.2.2.1, fun i hi hne => (k.2.2.2.2 i (Nat.lt_of_lt_of_le hi h.2.2.2.1) hne).trans (h.2.2.2.2 i hi hne)⟩
theorem Bk.kb {w w' : World} {b g : Nat} {C : Array Value} {t : TypeId} (h : Bk w b C t) (k : Kb g w w') (hne : b ≠ g) : Bk w' b C t := (k.2.2.2.2 b h.lt hne).trans h
theorem Bk.word {w : World} {b : Nat} {ws : List Nat} {X : Array Value} {t : TypeId} (h : Bk w b (wc ws ++ X) t) (j : Nat) (hj : j < ws.length) : w.cell? ⟨b, j, none⟩ = some (.int .u64 ((ws.getD j 0 : Nat) : Int)) := by
  rw [h.cell j, Array.getElem?_append_left (by rw [wc_size]; exact hj), wc_get ws j hj]
theorem wc_set (ws : List Nat) (j x : Nat) : (wc ws).setIfInBounds j (.int .u64 (x : Int)) = wc (ws.set j x) := by
  simp [wc, List.map_set]
theorem Bk.setw {w : World} {b : Nat} {ws : List Nat} {X : Array Value} {t : TypeId} (h : Bk w b (wc ws ++ X) t) (j x : Nat) (hj : j < ws.length) : Bk (w.setCell ⟨b, j, none⟩ (.int .u64 (x : Int))) b (wc (ws.set j x) ++ X) t := by
  have q := h.put j (.int .u64 (x : Int))
  rwa [Array.setIfInBounds_append_left (by rw [wc_size]; exact hj), wc_set] at q
set_option maxRecDepth 20000 in
set_option maxHeartbeats 400000 in
theorem below_ (ws : List Nat) (hl : ws.length = 67) (hf : Wf ws) (w : World) : Calls Tryz.prog 81 #[.agg (wc ws)] w fun e w' => e = .returned (.bool (decide (9223372036854775808 ≤ ws.getD 66 0))) ∧ Kp w w' := by
  have hs := wc_size ws
  rw [hl] at hs
  have hg := wc_get ws 66 (by omega)
  have hf6 := hf 66
  generalize ws.getD 66 0 = x at *
  generalize wc ws = C at *
  have hg2 : ∀ (h : 66 < C.size), C[66]'h = .int .u64 (x : Int) := fun h => by
    rw [Array.getElem?_eq_getElem h] at hg; exact Option.some.inj hg
  clear hg hf hl
  obtain ⟨t, ht⟩ : ∃ t : Bool, t = decide (0 < (x : Int) / 9223372036854775808) := ⟨_, rfl⟩
  have e : decide (9223372036854775808 ≤ x) = t := by rw [ht]; congr 1; apply propext; omega
  rw [e]
  clear e
  go_enter Tryz.func81, Tryz.ntmps81
  go_wp2
  simp only [← ht]
  exact bodyPost_ret (v := .bool t) (by simp [results, Tryz.results81, go_sem]) rfl ⟨rfl, (by repeat (with_reducible (first | assumption | exact Kp.refl _ | apply Kp.drew | apply Kp.alloc | apply Kp.drewN | (refine Kp.setCell ?_ (by first | omega | (simp <;> omega)) _) | (refine Kp.trans ?_ (by assumption)))))⟩

theorem add64_ (x y c : Nat) (hc : c ≤ 1) (w : World) : (callFunc 104 #[.int .u64 (x : Int), .int .u64 (y : Int), .int .u64 (c : Int)]).run Tryz.prog w = .ok (.value (.tuple #[.int .u64 (((x + y + c) % 18446744073709551616 : Nat) : Int), .int .u64 (((x + y + c) / 18446744073709551616 : Nat) : Int)])) w := by
  rw [run_callFunc_extern Tryz.func104 (by kernel_rfl) (by kernel_rfl) (by kernel_rfl) (e := add64Entry) (by kernel_rfl), run_add64 x y c (by omega) (by omega) (by omega) (by omega)]
  simp only [Result.andThen]
  congr 5 <;> omega
theorem xor0 (a : Nat) (h : a < 18446744073709551616) : bits .xor .u64 (a : Int) 0 = (a : Int) := by
  have := bits_xor_u64_nat a 0 h (by decide)
  simpa using this
theorem xorM (a : Nat) (h : a < 18446744073709551616) : bits .xor .u64 (a : Int) 18446744073709551615 = ((18446744073709551615 - a : Nat) : Int) := by
  have := bits_xor_u64_nat a 18446744073709551615 h (by decide)
  rw [Nat.xor_comm, Lib.xor_ones64 a h] at this
  exact this
theorem xorN (a : Nat) (h : a < 18446744073709551616) : bits .xor .u64 IntKind.u64.max (a : Int) = ((18446744073709551615 - a : Nat) : Int) := by
  show bits .xor .u64 18446744073709551615 (a : Int) = _
  have := bits_xor_u64_nat 18446744073709551615 a (by decide) h
  rw [Lib.xor_ones64 a h] at this
  exact this
def fli (neg : Bool) : Nat := if neg then 18446744073709551615 else 0
def sgI (neg : Bool) : Int := if neg then -1 else 1
set_option maxRecDepth 20000 in
set_option maxHeartbeats 400000 in
theorem flipOf_ (neg : Bool) (w : World) : Calls Tryz.prog 97 #[.bool neg] w fun e w' => e = .returned (.int .u64 ((fli neg : Nat) : Int)) ∧ w' = w := by
  cases neg
  · go_enter Tryz.func97, Tryz.ntmps97
    go_wp2
    exact bodyPost_ret (v := .int .u64 0) (by simp [results, Tryz.results97, go_sem]) rfl ⟨rfl, rfl⟩
  · go_enter Tryz.func97, Tryz.ntmps97
    go_wp2
    exact bodyPost_ret (v := .int .u64 18446744073709551615) (by simp [results, Tryz.results97, go_sem]) rfl ⟨rfl, rfl⟩
set_option maxRecDepth 20000 in
set_option maxHeartbeats 400000 in
theorem step_ (neg : Bool) (y p c : Nat) (hy : y < 18446744073709551616) (hp : p < 18446744073709551616) (hc : c ≤ 1) : ∃ x c2 : Nat, x < 18446744073709551616 ∧ c2 ≤ 1 ∧ (x : Int) + sgI neg * 18446744073709551616 * (c2 : Int) = (y : Int) + sgI neg * ((p : Int) + (c : Int)) ∧ ∀ w : World, Calls Tryz.prog 98 #[.int .u64 (y : Int), .int .u64 (p : Int), .int .u64 (c : Int), .int .u64 ((fli neg : Nat) : Int)] w fun e w' => e = .returned (.tuple #[.int .u64 (x : Int), .int .u64 (c2 : Int)]) ∧ w' = w := by
  cases neg
  · refine ⟨(y + p + c) % 18446744073709551616, (y + p + c) / 18446744073709551616, Nat.mod_lt _ (by decide), step_c y p c hy hp hc, step_plus y p c, fun w => ?_⟩
    have had := add64_ y p c hc
    have x1 := xor0 y hy
    have x2 := xor0 ((y + p + c) % 18446744073709551616) (Nat.mod_lt _ (by decide))
    generalize (y + p + c) % 18446744073709551616 = x at *
    generalize (y + p + c) / 18446744073709551616 = c2 at *
    show Calls Tryz.prog 98 #[.int .u64 (y : Int), .int .u64 (p : Int), .int .u64 (c : Int), .int .u64 0] w _
    clear hy hp hc
    go_enter Tryz.func98, Tryz.ntmps98
    go_wp2
    exact bodyPost_ret (v := .tuple #[.int .u64 (x : Int), .int .u64 (c2 : Int)]) (by simp [results, Tryz.results98, go_sem]) rfl ⟨rfl, rfl⟩
  · refine ⟨18446744073709551615 - (18446744073709551615 - y + p + c) % 18446744073709551616, (18446744073709551615 - y + p + c) / 18446744073709551616, by omega, step_c _ p c (by omega) hp hc, step_minus y p c hy, fun w => ?_⟩
    have had := add64_ (18446744073709551615 - y) p c hc
    have x1 := xorM y hy
    have x2 := xorM ((18446744073709551615 - y + p + c) % 18446744073709551616) (Nat.mod_lt _ (by decide))
    generalize (18446744073709551615 - y + p + c) % 18446744073709551616 = x at *
    generalize (18446744073709551615 - y + p + c) / 18446744073709551616 = c2 at *
    generalize 18446744073709551615 - y = y2 at *
    generalize 18446744073709551615 - x = x3 at *
    show Calls Tryz.prog 98 #[.int .u64 (y : Int), .int .u64 (p : Int), .int .u64 (c : Int), .int .u64 18446744073709551615] w _
    clear hy hp hc
    go_enter Tryz.func98, Tryz.ntmps98
    go_wp2
    exact bodyPost_ret (v := .tuple #[.int .u64 (x3 : Int), .int .u64 (c2 : Int)]) (by simp [results, Tryz.results98, go_sem]) rfl ⟨rfl, rfl⟩

theorem pow64 (u : Nat) (hu : u < 64) : 18446744073709551616 = 2 ^ (64 - u) * 2 ^ u := by
  rw [← Nat.pow_add, show 64 - u + u = 64 by omega]
theorem lay_hi (h u : Nat) (hu : u < 64) : h * 2 ^ u / 18446744073709551616 = h / 2 ^ (64 - u) := by
  rw [pow64 u hu, Nat.mul_div_mul_right _ _ (Nat.two_pow_pos u)]
theorem lay_or (h l u : Nat) (hu : u < 64) (hl : l < 18446744073709551616) : (h * 2 ^ u % 18446744073709551616) ||| (l / 2 ^ (64 - u)) = h * 2 ^ u % 18446744073709551616 + l * 2 ^ u / 18446744073709551616 ∧ h * 2 ^ u % 18446744073709551616 + l * 2 ^ u / 18446744073709551616 < 18446744073709551616 := by
  have e : h * 2 ^ u % 18446744073709551616 = 2 ^ u * (h % 2 ^ (64 - u)) := by
    rw [pow64 u hu, Nat.mul_mod_mul_right, Nat.mul_comm]
  have lt : l / 2 ^ (64 - u) < 2 ^ u := by
    rw [Nat.div_lt_iff_lt_mul (Nat.two_pow_pos _), Nat.mul_comm, ← pow64 u hu]; exact hl
  rw [lay_hi l u hu, e]
  refine ⟨(Nat.two_pow_add_eq_or_of_lt lt _).symm, ?_⟩
  have m := Nat.mod_lt h (Nat.two_pow_pos (64 - u))
  have p := pow64 u hu
  have q := Nat.mul_le_mul_left (2 ^ u) (show h % 2 ^ (64 - u) + 1 ≤ 2 ^ (64 - u) from m)
  rw [Nat.mul_add, Nat.mul_one, Nat.mul_comm (2 ^ u) (2 ^ (64 - u)), ← p] at q
  generalize 2 ^ u * (h % 2 ^ (64 - u)) = a at *
  generalize l / 2 ^ (64 - u) = d at *
  omega
def PS (P0 P1 P2 o k : Nat) : Nat := if k = 0 then 0 else if k = 1 then P0 * 18446744073709551616 ^ o else if k = 2 then P0 * 18446744073709551616 ^ o + P1 * 18446744073709551616 ^ (o + 1) else P0 * 18446744073709551616 ^ o + P1 * 18446744073709551616 ^ (o + 1) + P2 * 18446744073709551616 ^ (o + 2)
theorem PS_all (h l u o : Nat) : PS (l * 2 ^ u % 18446744073709551616) (h * 2 ^ u % 18446744073709551616 + l * 2 ^ u / 18446744073709551616) (h * 2 ^ u / 18446744073709551616) o 3 = (h * 18446744073709551616 + l) * 2 ^ (o * 64 + u) := by
  have e := parts3 h l u
  unfold PS
  rw [if_neg (by decide), if_neg (by decide), if_neg (by decide)]
  have pw : 2 ^ (o * 64 + u) = 18446744073709551616 ^ o * 2 ^ u := by rw [Nat.pow_add, Nat.mul_comm o 64, Nat.pow_mul, show (2 : Nat) ^ 64 = 18446744073709551616 from rfl]
  rw [pw, Nat.pow_add, Nat.pow_add, Nat.pow_one, show 18446744073709551616 ^ 2 = 18446744073709551616 * 18446744073709551616 from rfl]
  generalize h * 18446744073709551616 + l = X at *
  generalize h * 2 ^ u % 18446744073709551616 + l * 2 ^ u / 18446744073709551616 = b1 at *
  generalize l * 2 ^ u % 18446744073709551616 = a1 at *
  generalize h * 2 ^ u / 18446744073709551616 = c1 at *
  generalize 18446744073709551616 ^ o = Q at *
  rw [show X * (Q * 2 ^ u) = X * 2 ^ u * Q by rw [Nat.mul_comm Q, Nat.mul_assoc], ← e, Nat.add_mul, Nat.add_mul, Nat.mul_comm Q 18446744073709551616, Nat.mul_comm Q (18446744073709551616 * 18446744073709551616)]
  simp only [Nat.mul_assoc]
theorem wrapJ (a k j : Nat) (h : j = a + k) (hj : j < 9223372036854775808) : wrap64 ((a : Int) + (k : Int)) = (j : Int) := by unfold wrap64; omega
theorem wrapE (e : Int) (m : Nat) (h : e = (m : Int)) (hj : m < 9223372036854775808) : wrap64 e = (m : Int) := by rw [h]; unfold wrap64; omega
theorem cshl (x s : Nat) : (x : Int) * 2 ^ s = ((x * 2 ^ s : Nat) : Int) := by simp
theorem cshr (x s : Nat) : (x : Int) / 2 ^ s = ((x / 2 ^ s : Nat) : Int) := by simp
theorem idx3 (P0 P1 P2 k : Nat) (hk : k < 3) : ∃ Pk : Nat, (P0 < 18446744073709551616 → P1 < 18446744073709551616 → P2 < 18446744073709551616 → Pk < 18446744073709551616) ∧ (∀ o, PS P0 P1 P2 o k + Pk * 18446744073709551616 ^ (o + k) = PS P0 P1 P2 o (k + 1)) ∧ ∀ w : World, (Instr.index 125 (.agg #[.int .u64 (P0 : Int), .int .u64 (P1 : Int), .int .u64 (P2 : Int)]) (.int .i64 (k : Int))).run Tryz.prog w = .ok (.int .u64 (Pk : Int)) w := by
  have h3 : k = 0 ∨ k = 1 ∨ k = 2 := by omega
  rcases h3 with rfl | rfl | rfl
  · exact ⟨P0, fun a _ _ => a, fun o => by unfold PS; simp, fun w => by kernel_rfl⟩
  · exact ⟨P1, fun _ a _ => a, fun o => by unfold PS; simp, fun w => by kernel_rfl⟩
  · exact ⟨P2, fun _ _ a => a, fun o => by unfold PS; simp, fun w => by kernel_rfl⟩
theorem idxW (C : Array Value) (k : Nat) (v : Value) (hk : k < 67) (hv : C[k]? = some v) (w : World) : (Instr.index 52 (.agg C) (.int .i64 (k : Int))).run Tryz.prog w = .ok v w := by
  simp [Instr.index, asIntOf, run_underlying undW, part, hk, hv]
set_option maxRecDepth 20000 in
set_option maxHeartbeats 1000000 in
theorem lay_ (neg : Bool) (h l at9 up : Nat) (exp : Int) (hh : h < 18446744073709551616) (hl : l < 18446744073709551616) (he : exp + 2148 = ((at9 * 64 + up : Nat) : Int)) (hup : up < 64) (hat : at9 ≤ 64) (b : Nat) (ws : List Nat) (X : Array Value) (t : TypeId) (V : Int) (hV : Rep ws V) (w : World) (hb : Bk w b (wc ws ++ X) t) :
    Calls Tryz.prog 55 #[.pointer (some ⟨b, 0, none⟩), .bool neg, .int .u64 (h : Int), .int .u64 (l : Int), .int .i64 exp] w fun e w' => ∃ ws' : List Nat, (∃ v, e = .returned v) ∧ Bk w' b (wc ws' ++ X) t ∧ Rep ws' (V + sgI neg * (((h * 18446744073709551616 + l) * 2 ^ (at9 * 64 + up) : Nat) : Int)) ∧ Kb b w w' := by
  obtain ⟨m, hm⟩ : ∃ m, m = at9 * 64 + up := ⟨_, rfl⟩
  rw [← hm] at he
  have g1 : wrap64 (exp + 2148) = (m : Int) := wrapE _ _ he (by omega)
  have g2 : (m : Int) / 64 = (at9 : Int) := by omega
  have g3 : (m : Int) % 64 = (up : Int) := by omega
  have g4 : m < 9223372036854775808 := by omega
  have lo := lay_or h l up hup hl
  have hi := lay_hi h up hup
  rw [← PS_all h l up at9]
  have p0 : l * 2 ^ up % 18446744073709551616 < 18446744073709551616 := Nat.mod_lt _ (by decide)
  have p2 : h * 2 ^ up / 18446744073709551616 < 18446744073709551616 := by rw [hi]; exact Nat.lt_of_le_of_lt (Nat.div_le_self _ _) hh
  have g5 : IntKind.u64.wrap ((l : Int) * 2 ^ up) = ((l * 2 ^ up % 18446744073709551616 : Nat) : Int) := by rw [IntKind.wrap_u64, cshl]; rfl
  have g6 : IntKind.u64.wrap ((h : Int) * 2 ^ up) = ((h * 2 ^ up % 18446744073709551616 : Nat) : Int) := by rw [IntKind.wrap_u64, cshl]; rfl
  have g7 : (l : Int) / 2 ^ (64 - up) = ((l / 2 ^ (64 - up) : Nat) : Int) := cshr _ _
  have g8 : (h : Int) / 2 ^ (64 - up) = ((h * 2 ^ up / 18446744073709551616 : Nat) : Int) := by rw [hi]; exact cshr _ _
  have g9 : bits .or .u64 ((h * 2 ^ up % 18446744073709551616 : Nat) : Int) ((l / 2 ^ (64 - up) : Nat) : Int) = ((h * 2 ^ up % 18446744073709551616 + l * 2 ^ up / 18446744073709551616 : Nat) : Int) := by
    rw [bits_or_u64_nat _ _ (Nat.mod_lt _ (by decide)) (Nat.lt_of_le_of_lt (Nat.div_le_self _ _) hl), lo.1]
  have p1 := lo.2
  generalize h * 2 ^ up % 18446744073709551616 + l * 2 ^ up / 18446744073709551616 = P1 at *
  generalize h * 2 ^ up / 18446744073709551616 = P2 at *
  generalize l * 2 ^ up % 18446744073709551616 = P0 at *
  generalize h * 2 ^ up % 18446744073709551616 = A1 at *
  generalize l / 2 ^ (64 - up) = B1 at *
  have hflip := flipOf_ neg
  have HB : Hid (Bk w b (wc ws ++ X) t ∧ Rep ws V) := ⟨hb, hV⟩
  have HP : Hid (P0 < 18446744073709551616 ∧ P1 < 18446744073709551616 ∧ P2 < 18446744073709551616) := ⟨p0, p1, p2⟩
  have HA : Hid (at9 ≤ 64) := hat
  clear hm lo hi he hb hV p0 p1 p2 hh hl
  go_enter Tryz.func55, Tryz.ntmps55
  go_wp2_with (first | (go_at_call 97; refine (hflip _).mono ?_; rintro e w' ⟨rfl, rfl⟩))
  clear g1 g2 g3 g5 g6 g7 g8 g9 hflip
  go_loopw [15, 45] (fun cc ii wr => ∃ (k c : Nat) (us : List Nat), cc = .int .u64 (c : Int) ∧ ii = .int .i64 (k : Int) ∧ k ≤ 3 ∧ Lay ws us (sgI neg) (at9 + k) c (PS P0 P1 P2 at9 k) ∧ Bk wr b (wc us ++ X) t ∧ Kb b w wr) (fun _ i _ => 3 - (intOf i).toNat)
  case atStart =>
    obtain ⟨hb, hV⟩ := HB.out
    exact ⟨0, 0, ws, rfl, rfl, by omega, Lay.start _ hV.1 hV.2.1, hb.alloc _, Kb.of ((Kp.refl w).alloc _)⟩
  case round =>
    obtain ⟨k, c, us, rfl, rfl, hk, hL, hB, hK⟩ := hrel
    obtain ⟨p0, p1, p2⟩ := HP.out
    have hat := HA.out
    by_cases ck : k < 3
    · obtain ⟨Pk, pk, hPS, ix⟩ := idx3 P0 P1 P2 k ck
      have pk := pk p0 p1 p2
      have hy := hL.2.1 (at9 + k)
      have e1 := hB.word (at9 + k) (by rw [hL.1]; omega)
      have e2 := hB.frozen (at9 + k)
      obtain ⟨x, c2, hx, hc2, hxe, hst⟩ := step_ neg (us.getD (at9 + k) 0) Pk c hy pk hL.2.2.1
      have hL2 : Lay ws (us.set (at9 + k) x) (sgI neg) (at9 + (k + 1)) c2 (PS P0 P1 P2 at9 k + Pk * 18446744073709551616 ^ (at9 + k)) := hL.next (by omega) Pk x c2 hx hc2 hxe
      have hB2 := hB.setw (at9 + k) x (by rw [hL.1]; omega)
      have hK2 := hK.setCell (at9 + k) (.int .u64 (x : Int))
      rw [hPS] at hL2
      obtain ⟨j, hj⟩ : ∃ j, j = at9 + k := ⟨_, rfl⟩
      rw [← hj] at e1 e2 hst hB2 hK2 hL2
      have j3 : (j : Int) < 67 := by omega
      have j4 : j < 67 := by omega
      have j5 : (k : Int) < 3 := by omega
      have j6 : k + 1 ≤ 3 := by omega
      have j7 : 3 - (k + 1) < 3 - k := by omega
      have j1 : wrap64 ((at9 : Int) + (k : Int)) = (j : Int) := wrapJ _ _ _ hj (Nat.lt_trans j4 (by decide))
      have j2 : IntKind.i64.wrap ((at9 : Int) + (k : Int)) = (j : Int) := by rw [IntWalk.i64_left]; exact j1
      generalize us.getD j 0 = y at *
      clear hL hB hK hxe hy hx hc2 hj hk pk hPS p0 p1 p2
      go_wp2_with (fail)
      first | (go_region_with (go_at_call 98; refine (hst _).mono ?_; rintro e w' ⟨rfl, hw'⟩; obtain rfl := hw'.symm)) | fail
      all_goals (
        go_wp2
        exact ⟨⟨k + 1, c2, us.set j x, rfl, by go_num, j6, hL2, hB2.drew, hK2.drew⟩, (show 3 - (k + 1) < 3 - k from j7)⟩)
    · have hk3 : k = 3 := by omega
      have j1 : wrap64 ((at9 : Int) + 3) = ((at9 + 3 : Nat) : Int) := wrapJ at9 3 _ rfl (by omega)
      have hL : Lay ws us (sgI neg) (at9 + 3) c (PS P0 P1 P2 at9 3) := by rw [hk3] at hL; exact hL
      have t3 : ¬ ((k : Int) < 3) := by omega
      clear hk hk3 ck
      obtain ⟨j0, hj0⟩ : ∃ j0, j0 = at9 + 3 := ⟨_, rfl⟩
      rw [← hj0] at hL j1
      have hj67 : j0 ≤ 67 := by omega
      have HJ : Hid (j0 = at9 + 3) := hj0
      clear hj0
      go_wp2_with (fail)
      clear j1
      go_loopw [15, 18] (fun cc ii wr => ∃ (k c : Nat) (us : List Nat), cc = .int .u64 (c : Int) ∧ ii = .int .i64 (k : Int) ∧ k ≤ 67 ∧ Lay ws us (sgI neg) k c (PS P0 P1 P2 at9 3) ∧ Bk wr b (wc us ++ X) t ∧ Kb b w wr) (fun _ i _ => 67 - (intOf i).toNat)
      case atStart => exact ⟨j0, c, us, rfl, (by rw [HJ.out]; rfl), hj67, hL, hB, hK⟩
      case round =>
        clear hL hB hK hj67
        obtain ⟨k, c1, us1, rfl, rfl, hk, hL, hB, hK⟩ := hrel
        rcases Nat.eq_zero_or_pos c1 with hc | hc
        · have hR := ((show Lay ws us1 (sgI neg) k 0 (PS P0 P1 P2 at9 3) from hc ▸ hL).quick 67).rep HB.out.2
          have t0 : ¬ ((0 : Int) < (c1 : Int)) := by omega
          clear hc hk
          go_wp2_with (fail)
          exact bodyPost_end (v := .tuple #[]) (by simp [results, Tryz.results55, go_sem]) rfl (by first | exact ⟨⟨_, rfl⟩, us1, hB, hR, hK⟩ | exact ⟨us1, ⟨_, rfl⟩, hB, hR, hK⟩)
        · have t0 : (0 : Int) < (c1 : Int) := by omega
          by_cases ck : k < 67
          · have hy := hL.2.1 k
            have e1 := hB.word k (by rw [hL.1]; omega)
            have e2 := hB.frozen k
            obtain ⟨x, c2, hx, hc2, hxe, hst⟩ := step_ neg (us1.getD k 0) 0 c1 hy (by decide) hL.2.2.1
            have hL2 := hL.next0 ck x c2 hx hc2 hxe
            have hB2 := hB.setw k x (by rw [hL.1]; omega)
            have hK2 := hK.setCell k (.int .u64 (x : Int))
            have j3 : (k : Int) < 67 := by omega
            have j5 : k + 1 ≤ 67 := by omega
            have j6 : 67 - (k + 1) < 67 - k := by omega
            generalize us1.getD k 0 = y at *
            clear hL hB hK hxe hy hx hc2 hk hc
            go_wp2_with (fail)
            first | (go_region_with (go_at_call 98; refine (hst _).mono ?_; rintro e w' ⟨rfl, hw'⟩; obtain rfl := hw'.symm)) | fail
            all_goals (
              go_wp2
              exact ⟨⟨k + 1, c2, us1.set k x, rfl, by go_num, j5, hL2, hB2.drew, hK2.drew⟩, (show 67 - (k + 1) < 67 - k from j6)⟩)
          · obtain rfl : k = 67 := by omega
            have hR := hL.rep HB.out.2
            clear ck hk hc
            go_wp2_with (fail)
            exact bodyPost_end (v := .tuple #[]) (by simp [results, Tryz.results55, go_sem]) rfl (by first | exact ⟨⟨_, rfl⟩, us1, hB, hR, hK⟩ | exact ⟨us1, ⟨_, rfl⟩, hB, hR, hK⟩)
end Go.Proofs.YteedfmghgkmofaaGreatDoor
