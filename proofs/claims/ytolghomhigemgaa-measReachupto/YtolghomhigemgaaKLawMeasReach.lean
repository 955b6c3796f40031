import Derived.Test.YtolghomhigemgaaRows
import Derived.Test.YtolghomhigemgaaKXA0
import Derived.Test.YtolghomhigemgaaKWMg
import Derived.WalkKit
import Derived.ProofKit
import Derived.OpenShut
import Derived.Lib.SmallJoins
import Derived.RowKit3
import Derived.Deep.RegionHeld3
import Derived.Deep.QuietTactic
import Derived.BigQuiet
import Derived.Below
namespace Go.Proofs.Ytolghomhigemgaa.measReach
open Go.ChangeShapes Go.WideShapes Go.ChangeAt Go.RowKit Go.Joins
set_option linter.unusedVariables false

theorem own : ownKnob Try.prog.godebug = none := by kernel_rfl
theorem laidOut : laidOutB Try.prog = true := by kernel_rfl
theorem bndU {z : Int} (h : (Lit.int .u64 z).wf = true) : 0 ≤ z ∧ z < 18446744073709551616 := by
  have e1 : IntKind.u64.min = 0 := rfl
  have e2 : IntKind.u64.max = 18446744073709551615 := rfl
  simp [Lit.wf, e1, e2] at h
  omega
theorem bndI {z : Int} (h : (Lit.int .i64 z).wf = true) : -9223372036854775808 ≤ z ∧ z < 9223372036854775808 := by
  have e1 : IntKind.i64.min = -9223372036854775808 := rfl
  have e2 : IntKind.i64.max = 9223372036854775807 := rfl
  simp [Lit.wf, e1, e2] at h
  omega
theorem bulk_len {H : Type} (l : List (DataW H)) : l.length ≤ Rows.uptoBulkAll l := by
  induction l with
  | nil => simp [Rows.uptoBulkAll]
  | cons x r ih =>
    have h1 : 1 ≤ Rows.uptoBulk x := by cases x <;> first | (simp [Rows.uptoBulk]; done) | (rename_i l; cases l <;> simp [Rows.uptoBulk])
    simp only [Rows.uptoBulkAll, List.length_cons]
    omega
theorem cellsU : Try.prog.cellsOf 58 = 1 := by kernel_rfl
theorem openS {H : Type} {enc : TypeId × Value → H} {W : World} {v : Value} {fuel : Nat} {y : DataW H × List MemPlace} (hf : DataW.trod enc Try.prog W 0 (fun _ => true) true fuel 25 [v] = some y) :
    ∃ p cap xs, v = .slice p xs.length cap ∧ Arr W p xs ∧ Wd xs ∧ xs.length ≤ cap ∧ xs.length ≤ Rows.uptoBulk y.1 := by
  rcases open_ints Try.underlying25 Try.underlying58 cellsU hf with ⟨hcs, hx⟩ | ⟨a, len, cap, zs, hcs, _, hl, hm, hz, hx, hcell, hwz⟩
  · simp at hcs
    subst hcs
    exact ⟨none, 0, [], rfl, Or.inl rfl, Wd.nil, by simp, by simp⟩
  · simp at hcs
    subst hcs
    subst hx
    simp only [if_true] at hz
    have hlen : (zs.take len).length = len := by rw [List.length_take]; omega
    refine ⟨some a, cap, zs.take len, by rw [hlen], ?_, ?_, by omega, ?_⟩
    · by_cases c : len = 0
      · left; subst c; simp
      · right
        obtain ⟨b, off, rfl, hc⟩ := ints_at hcell (by omega)
        refine ⟨b, off, rfl, fun j hj => ?_⟩
        have hj' : j < len := by omega
        rw [hc j (by omega)]
        simp [List.getD, hj']
    · intro j
      have e1 : IntKind.u32.min = 0 := rfl
      have e2 : IntKind.u32.max = 4294967295 := rfl
      by_cases c : j < (zs.take len).length
      · have hmem : (zs.take len).getD j 0 ∈ zs := by
          have : (zs.take len).getD j 0 = (zs.take len)[j] := by rw [List.getD, List.getElem?_eq_getElem c]; rfl
          rw [this]; exact List.mem_of_mem_take (List.getElem_mem c)
        obtain ⟨z, hzz⟩ : ∃ z, z = (zs.take len).getD j 0 := ⟨_, rfl⟩
        rw [← hzz] at hmem ⊢
        have h5 := hwz _ hmem
        simp [Lit.wf, e1, e2] at h5
        omega
      · have : (zs.take len).getD j 0 = 0 := by
          rw [List.getD, List.getElem?_eq_none (by omega)]; rfl
        omega
    · have h1 := bulk_len (lits (H := H) .u32 (zs.take len))
      have h2 : (lits (H := H) .u32 (zs.take len)).length = len := by simp [lits]; omega
      simp only [Rows.uptoBulk]
      omega
set_option maxRecDepth 100000 in
theorem op_I {H : Type} {enc : TypeId × Value → H} {W : World} {a0 a1 : Value} {fuel : Nat} {y : DataW H × List MemPlace} (hf : DataW.trod enc Try.prog W 0 (fun _ => true) true fuel 24 [a0, a1] = some y) : (∃ z : Nat, a0 = .int .u64 (z : Int) ∧ z < 18446744073709551616) ∧ (∃ z : Nat, a1 = .int .u64 (z : Int) ∧ z < 18446744073709551616) := by
  obtain ⟨ys, m, rfl, hx, hl, hyl, hfl⟩ := DataW.trod_struct Try.underlying24 hf
  match ys, hyl with
  | [y0, y1], _ =>
    have k0 : Try.prog.cellsOf 22 = 1 := by kernel_rfl
    have r0 : DataW.trod enc Try.prog W 0 (fun _ => true) true m 22 (([a0, a1].drop 0).take (Try.prog.cellsOf 22)) = some y0 := hfl 0 _ rfl
    rw [k0] at r0
    have f0 : DataW.trod enc Try.prog W 0 (fun _ => true) true m 22 [a0] = some y0 := r0
    have k1 : Try.prog.cellsOf 22 = 1 := by kernel_rfl
    have r1 : DataW.trod enc Try.prog W 0 (fun _ => true) true m 22 (([a0, a1].drop 1).take (Try.prog.cellsOf 22)) = some y1 := hfl 1 _ rfl
    rw [k1] at r1
    have f1 : DataW.trod enc Try.prog W 0 (fun _ => true) true m 22 [a1] = some y1 := r1
    clear r0 r1 hfl
    obtain ⟨z0, g0, -, w0⟩ := DataW.trod_int Try.underlying22 f0
    obtain ⟨n0, rfl⟩ := Int.eq_ofNat_of_zero_le (bndU w0).1
    simp at g0
    obtain ⟨z1, g1, -, w1⟩ := DataW.trod_int Try.underlying22 f1
    obtain ⟨n1, rfl⟩ := Int.eq_ofNat_of_zero_le (bndU w1).1
    simp at g1
    exact ⟨⟨n0, g0, by have := (bndU w0).2; omega⟩, ⟨n1, g1, by have := (bndU w1).2; omega⟩⟩
theorem top_I {H : Type} {enc : TypeId × Value → H} {W : World} {base : Nat} {v : Value} {d : DataW H} {ps : List MemPlace} (hv : Value.okWide Try.prog W .any base 24 v) (h : DataW.Trod enc Try.prog W 0 (fun _ => true) true 24 v d ps) :
    ∃ a0 a1, v = .agg #[a0, a1] ∧ ∃ fuel, DataW.trod enc Try.prog W 0 (fun _ => true) true fuel 24 [a0, a1] = some (d, ps) := by
  obtain ⟨cs, rfl, hsz⟩ := okWide_struct Try.underlying24 hv
  obtain ⟨fuel, hf⟩ := h
  have hc : Try.prog.cellsOf 24 = 2 := by kernel_rfl
  rw [hc] at hsz
  obtain ⟨a0, a1, rfl⟩ : ∃ a0 a1, cs = #[a0, a1] := by
    obtain ⟨l⟩ := cs
    match l, hsz with
    | [a0, a1], _ => exact ⟨a0, a1, rfl⟩
  exact ⟨a0, a1, rfl, fuel, hf⟩
set_option maxRecDepth 100000 in
theorem op_R {H : Type} {enc : TypeId × Value → H} {W : World} {a0 a1 a2 : Value} {fuel : Nat} {y : DataW H × List MemPlace} (hf : DataW.trod enc Try.prog W 0 (fun _ => true) true fuel 27 [a0, a1, a2] = some y) : (∃ z : Bool, a0 = .bool z) ∧ (∃ p cap xs, a1 = .slice p xs.length cap ∧ Arr W p xs ∧ Wd xs ∧ xs.length ≤ cap ∧ xs.length ≤ Rows.uptoBulk y.1) ∧ (∃ p cap xs, a2 = .slice p xs.length cap ∧ Arr W p xs ∧ Wd xs ∧ xs.length ≤ cap ∧ xs.length ≤ Rows.uptoBulk y.1) := by
  obtain ⟨ys, m, rfl, hx, hl, hyl, hfl⟩ := DataW.trod_struct Try.underlying27 hf
  match ys, hyl with
  | [y0, y1, y2], _ =>
    have k0 : Try.prog.cellsOf 4 = 1 := by kernel_rfl
    have r0 : DataW.trod enc Try.prog W 0 (fun _ => true) true m 4 (([a0, a1, a2].drop 0).take (Try.prog.cellsOf 4)) = some y0 := hfl 0 _ rfl
    rw [k0] at r0
    have f0 : DataW.trod enc Try.prog W 0 (fun _ => true) true m 4 [a0] = some y0 := r0
    have k1 : Try.prog.cellsOf 25 = 1 := by kernel_rfl
    have r1 : DataW.trod enc Try.prog W 0 (fun _ => true) true m 25 (([a0, a1, a2].drop 1).take (Try.prog.cellsOf 25)) = some y1 := hfl 1 _ rfl
    rw [k1] at r1
    have f1 : DataW.trod enc Try.prog W 0 (fun _ => true) true m 25 [a1] = some y1 := r1
    have k2 : Try.prog.cellsOf 25 = 1 := by kernel_rfl
    have r2 : DataW.trod enc Try.prog W 0 (fun _ => true) true m 25 (([a0, a1, a2].drop 2).take (Try.prog.cellsOf 25)) = some y2 := hfl 2 _ rfl
    rw [k2] at r2
    have f2 : DataW.trod enc Try.prog W 0 (fun _ => true) true m 25 [a2] = some y2 := r2
    clear r0 r1 r2 hfl
    obtain ⟨b0, g0, -⟩ := DataW.trod_bool Try.underlying4 f0
    simp at g0
    obtain ⟨p1, c1, x1, e1, h1a, h1b, h1c, h1d⟩ := openS f1
    have u1 : Rows.uptoBulk y1.1 ≤ Rows.uptoBulk y.1 := by rw [hx]; simp only [List.map, Rows.uptoBulk, Rows.uptoBulkAll]; omega
    obtain ⟨p2, c2, x2, e2, h2a, h2b, h2c, h2d⟩ := openS f2
    have u2 : Rows.uptoBulk y2.1 ≤ Rows.uptoBulk y.1 := by rw [hx]; simp only [List.map, Rows.uptoBulk, Rows.uptoBulkAll]; omega
    exact ⟨⟨b0, g0⟩, ⟨p1, c1, x1, e1, h1a, h1b, h1c, by omega⟩, ⟨p2, c2, x2, e2, h2a, h2b, h2c, by omega⟩⟩
theorem top_R {H : Type} {enc : TypeId × Value → H} {W : World} {base : Nat} {v : Value} {d : DataW H} {ps : List MemPlace} (hv : Value.okWide Try.prog W .any base 27 v) (h : DataW.Trod enc Try.prog W 0 (fun _ => true) true 27 v d ps) :
    ∃ a0 a1 a2, v = .agg #[a0, a1, a2] ∧ ∃ fuel, DataW.trod enc Try.prog W 0 (fun _ => true) true fuel 27 [a0, a1, a2] = some (d, ps) := by
  obtain ⟨cs, rfl, hsz⟩ := okWide_struct Try.underlying27 hv
  obtain ⟨fuel, hf⟩ := h
  have hc : Try.prog.cellsOf 27 = 3 := by kernel_rfl
  rw [hc] at hsz
  obtain ⟨a0, a1, a2, rfl⟩ : ∃ a0 a1 a2, cs = #[a0, a1, a2] := by
    obtain ⟨l⟩ := cs
    match l, hsz with
    | [a0, a1, a2], _ => exact ⟨a0, a1, a2, rfl⟩
  exact ⟨a0, a1, a2, rfl, fuel, hf⟩
set_option maxRecDepth 100000 in
theorem contract (H : Type) (enc : TypeId × Value → H) (W : World) (base : Nat) (args : Array Value) (ds gs : List (DataW H)) (before : List MemPlace)
    (hval : ∀ (j : Nat) t v, Try.f3.params[j]? = some t → args[j]? = some v → Value.okWide Try.prog W .any base t v)
    (hW : DataW.Whole enc Try.prog Try.f3.params.toList Rows.measReachSpec.vars false W args.toList ds gs before) (hk : Rows.uptoSmall H (ds ++ gs) = true) :
    Calls Try.prog 3 args W fun e W' => ∃ v, e = .returned v ∧ Rows.measReachSpec.post enc Try.prog Try.f3 false true false false W args v W' := by
  have hW' := hW
  obtain ⟨p, q, hA0, hV, rfl, hfz, hnd⟩ := hW
  have hA : DataW.TrodAll enc Try.prog W 0 (fun _ => true) true Try.f3.params.toList args.toList ds p := hA0
  rw [Try.params3] at hA hval
  obtain ⟨v0, vs0, d0, ds0, p0, q0, hargs, rfl, rfl, h0, r0⟩ := trodAll_cons hA
  obtain ⟨v1, vs1, d1, ds1, p1, q1, rfl, rfl, rfl, h1, r1⟩ := trodAll_cons r0
  obtain ⟨rfl, rfl, rfl⟩ := trodAll_nil r1
  obtain rfl : args = #[v0, v1] := by cases args; simp_all
  obtain ⟨rfl, rfl⟩ := trodVars_none hV
  clear hA0
  simp only [List.append_nil] at hW' hk
  have hb : Rows.uptoBulkAll [d0, d1] ≤ 1048576 := of_decide_eq_true hk
  simp only [Rows.uptoBulkAll] at hb
  have hlt : ∀ x, x ∈ p0 ∨ x ∈ p1 → x.block < W.heap.size := fun x hx => by simpa using hW'.lt x (by simpa [List.mem_append] using hx)
  have ha0 : ∀ (W' : World), Below W.heap.size W W' → DataW.Trod enc Try.prog W' 0 (fun b => decide (b < W.heap.size)) true 24 v0 d0 p0 :=
    fun W' hn => Below.trod laidOut (by kernel_rfl) (of_decide_eq_true (by kernel_rfl)) h0 hn (fun x hx => hlt x (Or.inl hx))
  have ha1 : ∀ (W' : World), Below W.heap.size W W' → DataW.Trod enc Try.prog W' 0 (fun b => decide (b < W.heap.size)) true 27 v1 d1 p1 :=
    fun W' hn => Below.trod laidOut (by kernel_rfl) (of_decide_eq_true (by kernel_rfl)) h1 hn (fun x hx => hlt x (Or.inr (hx)))
  obtain ⟨b0_0, b0_1, rfl, fu0, hf0⟩ := top_I (hval 0 24 v0 rfl rfl) h0
  obtain ⟨⟨x0_0, rfl, lx0_0⟩, ⟨x0_1, rfl, lx0_1⟩⟩ := op_I hf0
  obtain ⟨b1_0, b1_1, b1_2, rfl, fu1, hf1⟩ := top_R (hval 1 27 v1 rfl rfl) h1
  obtain ⟨⟨x1_0, rfl⟩, ⟨px1_1, cx1_1, x1_1, rfl, ax1_1, wx1_1, kx1_1, lx1_1⟩, ⟨px1_2, cx1_2, x1_2, rfl, ax1_2, wx1_2, kx1_2, lx1_2⟩⟩ := op_R hf1
  replace lx1_1 : x1_1.length ≤ 1048576 := by simp only at lx1_1; omega
  replace lx1_2 : x1_2.length ≤ 1048576 := by simp only at lx1_2; omega
  refine (reach_ x0_0 x0_1 lx0_0 lx0_1 x1_0 px1_1 cx1_1 x1_1 px1_2 cx1_2 x1_2 W ax1_1 wx1_1 kx1_1 lx1_1 ax1_2 wx1_2 kx1_2 lx1_2).mono fun e W' ⟨he, hnx⟩ => ?_
  subst he
  refine ⟨_, rfl, _, _, _, [], _, [], hW', ?_, trodAll_cons_mk (ha0 _ hnx) (trodAll_cons_mk (ha1 _ hnx) trodAll_mk0), rfl, Below.frame hnx _, fun h => by cases h⟩
  exact trodAll_cons_mk (shut_bool Try.underlying4 _) trodAll_mk0
set_option maxRecDepth 100000 in
theorem liftedUpto (os : Os) (started : os.Started) (H : Type) (enc : TypeId × Value → H) (F : Stop.Interp) :
    ReturnsInHanded {} Try.checked os 3 .any ((Rows.OpenSpec.upto Rows.measReachSpec).pre6 enc Try.prog Try.f3 Rows.measReachUptoRow.domain false) (((Rows.OpenSpec.upto Rows.measReachSpec).at F).post enc Try.prog Try.f3 false true false false) := by
  refine returnsInHanded_of_cond (C := Try.checked) (s := Rows.OpenSpec.upto Rows.measReachSpec) (k := Rows.uptoSmall) rfl own started (by kernel_rfl) Try.func3
    (OpenSpec.witness (enc := enc) (C := Try.checked) (s := Rows.OpenSpec.upto Rows.measReachSpec) (k := Rows.uptoSmall) rfl false ⟨#[], #[.agg #[.int .u64 0, .int .u64 0], .agg #[.bool false, .slice none 0 0, .slice none 0 0]], []⟩ 8 (by kernel_rfl) (by kernel_rfl) (by kernel_rfl)
      (x := ([.agg [.lit (.int .u64 0), .lit (.int .u64 0)], .agg [.lit (.bool false), .nil, .nil]], [], [])) (by kernel_rfl) rfl (by kernel_rfl)) ?_
  intro W base args ds gs before hval hW _ hk _
  exact contract H enc W base args ds gs before hval hW hk
set_option maxRecDepth 100000 in
theorem proved : Rows.MeasReachUptoSaid :=
  OpenClaim.holds_of_cond 3 Try.f3 rfl rfl rfl rfl rfl rfl rfl ⟨rfl, rfl, rfl, rfl, rfl⟩ rfl rfl rfl rfl rfl (by kernel_rfl) Try.func3 (by kernel_rfl)
    (of_decide_eq_true (by kernel_rfl)) (by unfold Func.isWrapper; first | (rw [if_pos (by decide +kernel)]; kernel_rfl) | (rw [if_neg (by decide +kernel)]; exact ⟨rfl, rfl⟩))
    (fun os started H enc _ F => liftedUpto os started H enc F)
end Go.Proofs.Ytolghomhigemgaa.measReach

namespace Go.Proofs.Ytolghomhigemgaa
theorem measReach_holds : Rows.MeasReachUptoSaid := measReach.proved
end Go.Proofs.Ytolghomhigemgaa
