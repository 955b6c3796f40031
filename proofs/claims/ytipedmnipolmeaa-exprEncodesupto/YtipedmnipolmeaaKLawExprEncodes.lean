import Derived.Test.YtipedmnipolmeaaRows
import Derived.Test.YtipedmnipolmeaaKDExprEncodes0
import Derived.WalkKit
import Derived.ProofKit
import Derived.OpenShut
import Derived.Lib.SmallJoins
import Derived.RowKit3
import Derived.Deep.RegionHeld3
import Derived.Deep.QuietTactic
import Derived.BigQuiet
import Derived.Below
import Derived.Deep.SlicePairs
import Derived.Deep.Slices
namespace Go.Proofs.Ytipedmnipolmeaa.exprEncodes
open Go.ChangeShapes Go.WideShapes Go.ChangeAt Go.RowKit Go.Joins
set_option linter.unusedVariables false

theorem own : ownKnob Try.prog.godebug = none := by kernel_rfl
theorem laidOut : laidOutB Try.prog = true := by kernel_rfl
theorem bndU {z : Int} (h : (Lit.int .u64 z).wf = true) : 0 ≤ z ∧ z < 18446744073709551616 := by
  have e1 : IntKind.u64.min = 0 := rfl
  have e2 : IntKind.u64.max = 18446744073709551615 := rfl
  simp [Lit.wf, e1, e2] at h
  omega
theorem bndI {z : Int} (h : (Lit.int .i64 z).wf = true) : -9223372036854775808 ≤ z ∧ z < 9223372036854775808 := by
  have e1 : IntKind.i64.min = -9223372036854775808 := rfl
  have e2 : IntKind.i64.max = 9223372036854775807 := rfl
  simp [Lit.wf, e1, e2] at h
  omega
theorem bulk_len {H : Type} (l : List (DataW H)) : l.length ≤ Rows.uptoBulkAll l := by
  induction l with
  | nil => simp [Rows.uptoBulkAll]
  | cons x r ih =>
    have h1 : 1 ≤ Rows.uptoBulk x := by cases x <;> first | (simp [Rows.uptoBulk]; done) | (rename_i l; cases l <;> simp [Rows.uptoBulk])
    simp only [Rows.uptoBulkAll, List.length_cons]
    omega
def numV (v : Value) : Nat := match v with | .int _ z => z.toNat | _ => 0
theorem openG {H : Type} {enc : TypeId × Value → H} {W : World} {v : Value} {fuel : Nat} {y : DataW H × List MemPlace} (hf : DataW.trod enc Try.prog W 0 (fun _ => true) true fuel 22 [v] = some y) :
    ∃ p cap qs, v = .slice p qs.length cap ∧ X7.AG X7.ULV W p qs ∧ X7.Wq qs ∧ qs.length ≤ cap ∧ qs.length ≤ Rows.uptoBulk y.1 := by
  rcases Go.Deep.open_slice_pairs Try.underlying22 Try.underlying66 (by kernel_rfl) rfl rfl (by kernel_rfl) (by kernel_rfl) hf with ⟨hcs, hx⟩ | ⟨a, len', cap', m, n, V0, V1, D0, D1, P0, P1, hcs, _, hl, hm, hmm, hx, hcell⟩
  · simp at hcs
    subst hcs
    exact ⟨none, 0, [], rfl, Or.inl rfl, fun j => by simp, by simp, by simp⟩
  · simp at hcs
    subst hcs
    subst hx
    simp only [if_true] at hmm
    obtain ⟨len, rfl⟩ : ∃ z, z = len' := ⟨_, rfl⟩
    obtain ⟨cap, rfl⟩ : ∃ z, z = cap' := ⟨_, rfl⟩
    have key : ∀ i, i < m → V0 i = X7.ULV (numV (V0 i)) ∧ numV (V0 i) < 18446744073709551616 ∧ V1 i = X7.ULV (numV (V1 i)) ∧ numV (V1 i) < 18446744073709551616 := by
      intro i hi
      obtain ⟨_, _, t0, t1⟩ := hcell i hi
      obtain ⟨z0, g0, -, w0⟩ := DataW.trod_int Try.underlying64 t0
      obtain ⟨z1, g1, -, w1⟩ := DataW.trod_int Try.underlying64 t1
      simp at g0 g1
      have b0 := bndU w0
      have b1 := bndU w1
      rw [g0, g1]
      refine ⟨?_, ?_, ?_, ?_⟩
      · show _ = Value.int .u64 ((z0.toNat : Nat) : Int)
        rw [Int.toNat_of_nonneg b0.1]
      · show z0.toNat < _
        omega
      · show _ = Value.int .u64 ((z1.toNat : Nat) : Int)
        rw [Int.toNat_of_nonneg b1.1]
      · show z1.toNat < _
        omega
    have hlen : ((List.range len).map fun i => (numV (V0 i), numV (V1 i))).length = len := by simp
    refine ⟨some a, cap, (List.range len).map (fun i => (numV (V0 i), numV (V1 i))), by rw [hlen], ?_, ?_, by omega, ?_⟩
    · by_cases c : len = 0
      · left; subst c; rfl
      · right
        obtain ⟨b, off, spot⟩ := a
        have hspot : spot = none := by simpa [Addr.add] using World.cell?_spot (hcell 0 (by omega)).1
        subst hspot
        refine ⟨b, off, rfl, fun j hj => ?_⟩
        have hj' : j < len := by omega
        have e := hcell j (by omega)
        rw [Go.WideShapes.add_plain] at e
        have k := key j (by omega)
        have e2 := e.2.1
        rw [Go.WideShapes.add_plain] at e2
        simp only [List.getD, List.getElem?_map, List.getElem?_range hj', Option.map_some, Option.getD_some]
        rw [← k.1, ← k.2.2.1]
        exact ⟨e.1, by rw [Nat.add_assoc]; exact e2⟩
    · intro j
      by_cases c : j < len
      · have k := key j (by omega)
        simp only [List.getD, List.getElem?_map, List.getElem?_range c, Option.map_some, Option.getD_some]
        exact ⟨k.2.1, k.2.2.2⟩
      · rw [List.getD, List.getElem?_eq_none (by rw [hlen]; omega)]; decide
    · have h1 := bulk_len ((List.range len).map fun i => (DataW.agg [D0 i, D1 i] : DataW H))
      rw [List.length_map, List.length_range] at h1
      rw [hlen]
      simp only [Rows.uptoBulk]
      omega
set_option maxRecDepth 100000 in
theorem op_F5 {H : Type} {enc : TypeId × Value → H} {W : World} {a0 a1 a2 a3 a4 : Value} {fuel : Nat} {y : DataW H × List MemPlace} (hf : DataW.trod enc Try.prog W 0 (fun _ => true) true fuel 61 [a0, a1, a2, a3, a4] = some y) : (∃ z : Int, a0 = .int .i64 z ∧ (-9223372036854775808 ≤ z ∧ z < 9223372036854775808)) ∧ (∃ z : Int, a1 = .int .i64 z ∧ (-9223372036854775808 ≤ z ∧ z < 9223372036854775808)) ∧ (∃ z : Int, a2 = .int .i64 z ∧ (-9223372036854775808 ≤ z ∧ z < 9223372036854775808)) ∧ (∃ z : Int, a3 = .int .i64 z ∧ (-9223372036854775808 ≤ z ∧ z < 9223372036854775808)) ∧ (∃ z : Int, a4 = .int .i64 z ∧ (-9223372036854775808 ≤ z ∧ z < 9223372036854775808)) := by
  obtain ⟨ys, m, rfl, hx, hl, hyl, hfl⟩ := DataW.trod_struct Try.underlying61 hf
  match ys, hyl with
  | [y0, y1, y2, y3, y4], _ =>
    have k0 : Try.prog.cellsOf 3 = 1 := by kernel_rfl
    have r0 : DataW.trod enc Try.prog W 0 (fun _ => true) true m 3 (([a0, a1, a2, a3, a4].drop 0).take (Try.prog.cellsOf 3)) = some y0 := hfl 0 _ rfl
    rw [k0] at r0
    have f0 : DataW.trod enc Try.prog W 0 (fun _ => true) true m 3 [a0] = some y0 := r0
    have k1 : Try.prog.cellsOf 3 = 1 := by kernel_rfl
    have r1 : DataW.trod enc Try.prog W 0 (fun _ => true) true m 3 (([a0, a1, a2, a3, a4].drop 1).take (Try.prog.cellsOf 3)) = some y1 := hfl 1 _ rfl
    rw [k1] at r1
    have f1 : DataW.trod enc Try.prog W 0 (fun _ => true) true m 3 [a1] = some y1 := r1
    have k2 : Try.prog.cellsOf 3 = 1 := by kernel_rfl
    have r2 : DataW.trod enc Try.prog W 0 (fun _ => true) true m 3 (([a0, a1, a2, a3, a4].drop 2).take (Try.prog.cellsOf 3)) = some y2 := hfl 2 _ rfl
    rw [k2] at r2
    have f2 : DataW.trod enc Try.prog W 0 (fun _ => true) true m 3 [a2] = some y2 := r2
    have k3 : Try.prog.cellsOf 3 = 1 := by kernel_rfl
    have r3 : DataW.trod enc Try.prog W 0 (fun _ => true) true m 3 (([a0, a1, a2, a3, a4].drop 3).take (Try.prog.cellsOf 3)) = some y3 := hfl 3 _ rfl
    rw [k3] at r3
    have f3 : DataW.trod enc Try.prog W 0 (fun _ => true) true m 3 [a3] = some y3 := r3
    have k4 : Try.prog.cellsOf 3 = 1 := by kernel_rfl
    have r4 : DataW.trod enc Try.prog W 0 (fun _ => true) true m 3 (([a0, a1, a2, a3, a4].drop 4).take (Try.prog.cellsOf 3)) = some y4 := hfl 4 _ rfl
    rw [k4] at r4
    have f4 : DataW.trod enc Try.prog W 0 (fun _ => true) true m 3 [a4] = some y4 := r4
    clear r0 r1 r2 r3 r4 hfl
    obtain ⟨z0, g0, -, w0⟩ := DataW.trod_int Try.underlying3 f0
    simp at g0
    obtain ⟨z1, g1, -, w1⟩ := DataW.trod_int Try.underlying3 f1
    simp at g1
    obtain ⟨z2, g2, -, w2⟩ := DataW.trod_int Try.underlying3 f2
    simp at g2
    obtain ⟨z3, g3, -, w3⟩ := DataW.trod_int Try.underlying3 f3
    simp at g3
    obtain ⟨z4, g4, -, w4⟩ := DataW.trod_int Try.underlying3 f4
    simp at g4
    exact ⟨⟨z0, g0, bndI w0⟩, ⟨z1, g1, bndI w1⟩, ⟨z2, g2, bndI w2⟩, ⟨z3, g3, bndI w3⟩, ⟨z4, g4, bndI w4⟩⟩
theorem ceF5 : Try.prog.cellsOf 61 = 5 := by kernel_rfl
set_option maxRecDepth 100000 in
theorem openF {H : Type} {enc : TypeId × Value → H} {W : World} {v : Value} {fuel : Nat} {y : DataW H × List MemPlace} (hf : DataW.trod enc Try.prog W 0 (fun _ => true) true fuel 23 [v] = some y) :
    ∃ p cap L, v = .slice p (List.length L) cap ∧ X7.AI W p L ∧ X7.W5 L ∧ L.length ≤ cap ∧ L.length ≤ Rows.uptoBulk y.1 := by
  rcases Go.Deep.open_slice Try.underlying23 hf with ⟨hcs, hx⟩ | ⟨a, len, cap, m, n, D, Pl, hcs, _, hl, hm, hmm, hx, hcell⟩
  · simp at hcs
    subst hcs
    exact ⟨none, 0, [], rfl, Or.inl rfl, fun j hj => by simp at hj, by simp, by simp⟩
  · simp at hcs
    subst hcs
    subst hx
    simp only [if_true] at hmm
    rw [ceF5] at hcell
    have hbk : len ≤ Rows.uptoBulk (DataW.slice ((List.range len).map D) ((List.range (m - len)).map fun j => D (len + j))) := by
      have h1 := bulk_len ((List.range len).map D)
      rw [List.length_map, List.length_range] at h1
      simp only [Rows.uptoBulk]
      omega
    by_cases c0 : len = 0
    · subst c0
      exact ⟨some a, cap, [], rfl, Or.inl rfl, fun j hj => by simp at hj, by simp, by simp⟩
    · obtain ⟨b, off, spot⟩ := a
      have hspot : spot = none := by
        obtain ⟨cs', h1, h2⟩ := hcell 0 (by omega)
        obtain ⟨_, hlen, hc⟩ := World.cells?_some h1
        match cs', hlen with
        | [c0, c1, c2, c3, c4], _ =>
          have := hc 0 (by decide)
          simpa [Addr.add] using World.cell?_spot this
      subst hspot
      have key : ∀ i, i < len → ∃ t : X7.I5, X7.R5 t ∧ W.cell? ⟨b, off + i * 5, none⟩ = some (.int .i64 t.1) ∧ W.cell? ⟨b, off + i * 5 + 1, none⟩ = some (.int .i64 t.2.1) ∧ W.cell? ⟨b, off + i * 5 + 2, none⟩ = some (.int .i64 t.2.2.1) ∧ W.cell? ⟨b, off + i * 5 + 3, none⟩ = some (.int .i64 t.2.2.2.1) ∧ W.cell? ⟨b, off + i * 5 + 4, none⟩ = some (.int .i64 t.2.2.2.2) := by
        intro i hi
        obtain ⟨cs', h1, h2⟩ := hcell i (by omega)
        obtain ⟨_, hlen, hc⟩ := World.cells?_some h1
        match cs', hlen with
        | [c0, c1, c2, c3, c4], _ =>
          obtain ⟨⟨X0, rfl, r0⟩, ⟨X1, rfl, r1⟩, ⟨X2, rfl, r2⟩, ⟨X3, rfl, r3⟩, ⟨X4, rfl, r4⟩⟩ := op_F5 h2
          have e0 := hc 0 (by decide)
          have e1 := hc 1 (by decide)
          have e2 := hc 2 (by decide)
          have e3 := hc 3 (by decide)
          have e4 := hc 4 (by decide)
          rw [Go.WideShapes.add_plain, Go.WideShapes.add_plain] at e0 e1 e2 e3 e4
          exact ⟨(X0, X1, X2, X3, X4), ⟨r0, r1, r2, r3, r4⟩, e0, e1, e2, e3, e4⟩
      let f : Nat → X7.I5 := fun i => if h : i < len then Classical.choose (key i h) else X7.D5
      have hf2 : ∀ i (h : i < len), f i = Classical.choose (key i h) := fun i h => by simp only [f, h, dif_pos]
      have hg : ∀ i, i < len → ((List.range len).map f).getD i X7.D5 = f i := fun i h => by
        simp [List.getD, h]
      have hlen : ((List.range len).map f).length = len := by simp
      refine ⟨some ⟨b, off, none⟩, cap, (List.range len).map f, by rw [hlen], Or.inr ⟨b, off, rfl, fun j hj => ?_⟩, fun j hj => ?_, by omega, by rw [hlen]; exact hbk⟩
      · have hj : j < len := by omega
        have k := Classical.choose_spec (key j hj)
        rw [hg j hj, hf2 j hj]
        exact k.2
      · have hj : j < len := by omega
        have k := Classical.choose_spec (key j hj)
        rw [hg j hj, hf2 j hj]
        exact k.1
set_option maxRecDepth 100000 in
theorem op_P {H : Type} {enc : TypeId × Value → H} {W : World} {a0 a1 a2 : Value} {fuel : Nat} {y : DataW H × List MemPlace} (hf : DataW.trod enc Try.prog W 0 (fun _ => true) true fuel 25 [a0, a1, a2] = some y) : (∃ z : Int, a0 = .int .i64 z ∧ (-9223372036854775808 ≤ z ∧ z < 9223372036854775808)) ∧ (∃ p cap xs, a1 = .slice p xs.length cap ∧ X7.AG X7.ULV W p xs ∧ X7.Wq xs ∧ xs.length ≤ cap ∧ xs.length ≤ Rows.uptoBulk y.1) ∧ (∃ p cap xs, a2 = .slice p xs.length cap ∧ X7.AI W p xs ∧ X7.W5 xs ∧ xs.length ≤ cap ∧ xs.length ≤ Rows.uptoBulk y.1) := by
  obtain ⟨ys, m, rfl, hx, hl, hyl, hfl⟩ := DataW.trod_struct Try.underlying25 hf
  match ys, hyl with
  | [y0, y1, y2], _ =>
    have k0 : Try.prog.cellsOf 3 = 1 := by kernel_rfl
    have r0 : DataW.trod enc Try.prog W 0 (fun _ => true) true m 3 (([a0, a1, a2].drop 0).take (Try.prog.cellsOf 3)) = some y0 := hfl 0 _ rfl
    rw [k0] at r0
    have f0 : DataW.trod enc Try.prog W 0 (fun _ => true) true m 3 [a0] = some y0 := r0
    have k1 : Try.prog.cellsOf 22 = 1 := by kernel_rfl
    have r1 : DataW.trod enc Try.prog W 0 (fun _ => true) true m 22 (([a0, a1, a2].drop 1).take (Try.prog.cellsOf 22)) = some y1 := hfl 1 _ rfl
    rw [k1] at r1
    have f1 : DataW.trod enc Try.prog W 0 (fun _ => true) true m 22 [a1] = some y1 := r1
    have k2 : Try.prog.cellsOf 23 = 1 := by kernel_rfl
    have r2 : DataW.trod enc Try.prog W 0 (fun _ => true) true m 23 (([a0, a1, a2].drop 2).take (Try.prog.cellsOf 23)) = some y2 := hfl 2 _ rfl
    rw [k2] at r2
    have f2 : DataW.trod enc Try.prog W 0 (fun _ => true) true m 23 [a2] = some y2 := r2
    clear r0 r1 r2 hfl
    obtain ⟨z0, g0, -, w0⟩ := DataW.trod_int Try.underlying3 f0
    simp at g0
    obtain ⟨p1, c1, x1, e1, h1a, h1b, h1c, h1d⟩ := openG f1
    have u1 : Rows.uptoBulk y1.1 ≤ Rows.uptoBulk y.1 := by rw [hx]; simp only [List.map, Rows.uptoBulk, Rows.uptoBulkAll]; omega
    obtain ⟨p2, c2, x2, e2, h2a, h2b, h2c, h2d⟩ := openF f2
    have u2 : Rows.uptoBulk y2.1 ≤ Rows.uptoBulk y.1 := by rw [hx]; simp only [List.map, Rows.uptoBulk, Rows.uptoBulkAll]; omega
    exact ⟨⟨z0, g0, bndI w0⟩, ⟨p1, c1, x1, e1, h1a, h1b, h1c, by omega⟩, ⟨p2, c2, x2, e2, h2a, h2b, h2c, by omega⟩⟩
set_option maxRecDepth 100000 in
theorem top_P {H : Type} {enc : TypeId × Value → H} {W : World} {base : Nat} {v : Value} {d : DataW H} {ps : List MemPlace} (hv : Value.okWide Try.prog W .any base 25 v) (h : DataW.Trod enc Try.prog W 0 (fun _ => true) true 25 v d ps) :
    ∃ a0 a1 a2, v = .agg #[a0, a1, a2] ∧ ∃ fuel, DataW.trod enc Try.prog W 0 (fun _ => true) true fuel 25 [a0, a1, a2] = some (d, ps) := by
  obtain ⟨cs, rfl, hsz⟩ := okWide_struct Try.underlying25 hv
  obtain ⟨fuel, hf⟩ := h
  have hc : Try.prog.cellsOf 25 = 3 := by kernel_rfl
  rw [hc] at hsz
  obtain ⟨a0, a1, a2, rfl⟩ : ∃ a0 a1 a2, cs = #[a0, a1, a2] := by
    obtain ⟨l⟩ := cs
    match l, hsz with
    | [a0, a1, a2], _ => exact ⟨a0, a1, a2, rfl⟩
  exact ⟨a0, a1, a2, rfl, fuel, hf⟩
set_option maxRecDepth 100000 in
theorem contract (H : Type) (enc : TypeId × Value → H) (W : World) (base : Nat) (args : Array Value) (ds gs : List (DataW H)) (before : List MemPlace)
    (hval : ∀ (j : Nat) t v, Try.f4.params[j]? = some t → args[j]? = some v → Value.okWide Try.prog W .any base t v)
    (hW : DataW.Whole enc Try.prog Try.f4.params.toList Rows.exprEncodesSpec.vars false W args.toList ds gs before) (hk : Rows.uptoSmall H (ds ++ gs) = true) :
    Calls Try.prog 4 args W fun e W' => ∃ v, e = .returned v ∧ Rows.exprEncodesSpec.post enc Try.prog Try.f4 false true false false W args v W' := by
  have hW' := hW
  obtain ⟨p, q, hA0, hV, rfl, hfz, hnd⟩ := hW
  have hA : DataW.TrodAll enc Try.prog W 0 (fun _ => true) true Try.f4.params.toList args.toList ds p := hA0
  rw [Try.params4] at hA hval
  obtain ⟨v0, vs0, d0, ds0, p0, q0, hargs, rfl, rfl, h0, r0⟩ := trodAll_cons hA
  obtain ⟨rfl, rfl, rfl⟩ := trodAll_nil r0
  obtain rfl : args = #[v0] := by cases args; simp_all
  obtain ⟨rfl, rfl⟩ := trodVars_none hV
  clear hA0
  simp only [List.append_nil] at hW' hk
  have hb : Rows.uptoBulkAll [d0] ≤ 1048576 := of_decide_eq_true hk
  simp only [Rows.uptoBulkAll] at hb
  have hlt : ∀ x, x ∈ p0 → x.block < W.heap.size := fun x hx => by simpa using hW'.lt x (by simpa [List.mem_append] using hx)
  have ha0 : ∀ (W' : World), Below W.heap.size W W' → DataW.Trod enc Try.prog W' 0 (fun b => decide (b < W.heap.size)) true 25 v0 d0 p0 :=
    fun W' hn => Below.trod laidOut (by kernel_rfl) (of_decide_eq_true (by kernel_rfl)) h0 hn (fun x hx => hlt x (hx))
  obtain ⟨b0_0, b0_1, b0_2, rfl, fu0, hf0⟩ := top_P (hval 0 25 v0 rfl rfl) h0
  obtain ⟨⟨x0_0, rfl, lx0_0⟩, ⟨px0_1, cx0_1, x0_1, rfl, ax0_1, wx0_1, kx0_1, lx0_1⟩, ⟨px0_2, cx0_2, x0_2, rfl, ax0_2, wx0_2, kx0_2, lx0_2⟩⟩ := op_P hf0
  replace lx0_1 : x0_1.length ≤ 1048576 := by first | omega | (simp only at lx0_1; omega)
  replace lx0_2 : x0_2.length ≤ 1048576 := by first | omega | (simp only at lx0_2; omega)
  refine (X7.exprencodes_ x0_0 px0_1 px0_2 cx0_1 cx0_2 x0_1 x0_2 W ax0_1 ax0_2 wx0_1 lx0_1 lx0_2).mono fun e W' ⟨he, hnx⟩ => ?_
  subst he
  refine ⟨_, rfl, _, _, _, [], _, [], hW', ?_, trodAll_cons_mk (ha0 _ hnx) trodAll_mk0, rfl, Below.frame hnx _, fun h => by cases h⟩
  exact trodAll_cons_mk (shut_bool Try.underlying4 _) trodAll_mk0
set_option maxRecDepth 100000 in
theorem liftedUpto (os : Os) (started : os.Started) (H : Type) (enc : TypeId × Value → H) (F : Stop.Interp) :
    ReturnsInHanded {} Try.checked os 4 .any ((Rows.OpenSpec.upto Rows.exprEncodesSpec).pre6 enc Try.prog Try.f4 Rows.exprEncodesUptoRow.domain false) (((Rows.OpenSpec.upto Rows.exprEncodesSpec).at F).post enc Try.prog Try.f4 false true false false) := by
  refine returnsInHanded_of_cond (C := Try.checked) (s := Rows.OpenSpec.upto Rows.exprEncodesSpec) (k := Rows.uptoSmall) rfl own started (by kernel_rfl) Try.func4
    (OpenSpec.witness (enc := enc) (C := Try.checked) (s := Rows.OpenSpec.upto Rows.exprEncodesSpec) (k := Rows.uptoSmall) rfl false ⟨#[], #[.agg #[.int .i64 0, .slice none 0 0, .slice none 0 0]], []⟩ 8 (by kernel_rfl) (by kernel_rfl) (by kernel_rfl)
      (x := ([.agg [.lit (.int .i64 0), .nil, .nil]], [], [])) (by kernel_rfl) rfl (by kernel_rfl)) ?_
  intro W base args ds gs before hval hW _ hk _
  exact contract H enc W base args ds gs before hval hW hk
set_option maxRecDepth 100000 in
theorem proved : Rows.ExprEncodesUptoSaid :=
  OpenClaim.holds_of_cond 4 Try.f4 rfl rfl rfl rfl rfl rfl rfl ⟨rfl, rfl, rfl, rfl, rfl⟩ rfl rfl rfl rfl rfl (by kernel_rfl) Try.func4 (by kernel_rfl)
    (of_decide_eq_true (by kernel_rfl)) (by unfold Func.isWrapper; first | (rw [if_pos (by decide +kernel)]; kernel_rfl) | (rw [if_neg (by decide +kernel)]; exact ⟨rfl, rfl⟩))
    (fun os started H enc _ F => liftedUpto os started H enc F)
end Go.Proofs.Ytipedmnipolmeaa.exprEncodes

namespace Go.Proofs.Ytipedmnipolmeaa
theorem exprEncodes_holds : Rows.ExprEncodesUptoSaid := exprEncodes.proved
end Go.Proofs.Ytipedmnipolmeaa
