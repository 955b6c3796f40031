import Derived.Test.YtjkbapnndoldgaaKSHml
import Derived.Test.YtjkbapnndoldgaaRows
import Derived.Lib.SmallJoins
import Derived.OpenShut
namespace Go.Proofs.Ytjkbapnndoldgaa.shortMeets
open Go.ChangeShapes Go.WideShapes Go.ChangeAt Go.RowKit Go.Joins
set_option linter.unusedVariables false

theorem own : ownKnob Try.prog.godebug = none := by kernel_rfl
theorem laidOut : laidOutB Try.prog = true := by kernel_rfl
theorem bndU {z : Int} (h : (Lit.int .u64 z).wf = true) : 0 ≤ z ∧ z < 18446744073709551616 := by
  have e1 : IntKind.u64.min = 0 := rfl
  have e2 : IntKind.u64.max = 18446744073709551615 := rfl
  simp [Lit.wf, e1, e2] at h
  omega
theorem bndI {z : Int} (h : (Lit.int .i64 z).wf = true) : -9223372036854775808 ≤ z ∧ z < 9223372036854775808 := by
  have e1 : IntKind.i64.min = -9223372036854775808 := rfl
  have e2 : IntKind.i64.max = 9223372036854775807 := rfl
  simp [Lit.wf, e1, e2] at h
  omega
theorem bulk_len {H : Type} (l : List (DataW H)) : l.length ≤ Rows.uptoBulkAll l := by
  induction l with
  | nil => simp [Rows.uptoBulkAll]
  | cons x r ih =>
    have h1 : 1 ≤ Rows.uptoBulk x := by cases x <;> first | (simp [Rows.uptoBulk]; done) | (rename_i l; cases l <;> simp [Rows.uptoBulk])
    simp only [Rows.uptoBulkAll, List.length_cons]
    omega
theorem bndH {z : Int} (h : (Lit.int .u32 z).wf = true) : 0 ≤ z ∧ z < 4294967296 := by
  have e1 : IntKind.u32.min = 0 := rfl
  have e2 : IntKind.u32.max = 4294967295 := rfl
  simp [Lit.wf, e1, e2] at h
  omega
set_option maxRecDepth 100000 in
theorem op_T {H : Type} {enc : TypeId × Value → H} {W : World} {a0 a1 : Value} {fuel : Nat} {y : DataW H × List MemPlace} (hf : DataW.trod enc Try.prog W 0 (fun _ => true) true fuel 24 [a0, a1] = some y) : (∃ z : Nat, a0 = .int .u32 (z : Int) ∧ z < 4294967296) ∧ (∃ z : Nat, a1 = .int .u32 (z : Int) ∧ z < 4294967296) := by
  obtain ⟨ys, m, rfl, hx, hl, hyl, hfl⟩ := DataW.trod_struct Try.underlying24 hf
  match ys, hyl with
  | [y0, y1], _ =>
    have k0 : Try.prog.cellsOf 22 = 1 := by kernel_rfl
    have r0 : DataW.trod enc Try.prog W 0 (fun _ => true) true m 22 (([a0, a1].drop 0).take (Try.prog.cellsOf 22)) = some y0 := hfl 0 _ rfl
    rw [k0] at r0
    have f0 : DataW.trod enc Try.prog W 0 (fun _ => true) true m 22 [a0] = some y0 := r0
    have k1 : Try.prog.cellsOf 22 = 1 := by kernel_rfl
    have r1 : DataW.trod enc Try.prog W 0 (fun _ => true) true m 22 (([a0, a1].drop 1).take (Try.prog.cellsOf 22)) = some y1 := hfl 1 _ rfl
    rw [k1] at r1
    have f1 : DataW.trod enc Try.prog W 0 (fun _ => true) true m 22 [a1] = some y1 := r1
    clear r0 r1 hfl
    obtain ⟨z0, g0, -, w0⟩ := DataW.trod_int Try.underlying22 f0
    obtain ⟨n0, rfl⟩ := Int.eq_ofNat_of_zero_le (bndH w0).1
    simp at g0
    obtain ⟨z1, g1, -, w1⟩ := DataW.trod_int Try.underlying22 f1
    obtain ⟨n1, rfl⟩ := Int.eq_ofNat_of_zero_le (bndH w1).1
    simp at g1
    exact ⟨⟨n0, g0, by have := (bndH w0).2; omega⟩, ⟨n1, g1, by have := (bndH w1).2; omega⟩⟩
set_option maxRecDepth 100000 in
theorem top_T {H : Type} {enc : TypeId × Value → H} {W : World} {base : Nat} {v : Value} {d : DataW H} {ps : List MemPlace} (hv : Value.okWide Try.prog W .any base 24 v) (h : DataW.Trod enc Try.prog W 0 (fun _ => true) true 24 v d ps) :
    ∃ a0 a1, v = .agg #[a0, a1] ∧ ∃ fuel, DataW.trod enc Try.prog W 0 (fun _ => true) true fuel 24 [a0, a1] = some (d, ps) := by
  obtain ⟨cs, rfl, hsz⟩ := okWide_struct Try.underlying24 hv
  obtain ⟨fuel, hf⟩ := h
  have hc : Try.prog.cellsOf 24 = 2 := by kernel_rfl
  rw [hc] at hsz
  obtain ⟨a0, a1, rfl⟩ : ∃ a0 a1, cs = #[a0, a1] := by
    obtain ⟨l⟩ := cs
    match l, hsz with
    | [a0, a1], _ => exact ⟨a0, a1, rfl⟩
  exact ⟨a0, a1, rfl, fuel, hf⟩
set_option maxRecDepth 100000 in
theorem op_I {H : Type} {enc : TypeId × Value → H} {W : World} {a0 a1 : Value} {fuel : Nat} {y : DataW H × List MemPlace} (hf : DataW.trod enc Try.prog W 0 (fun _ => true) true fuel 36 [a0, a1] = some y) : (∃ z : Nat, a0 = .int .u64 (z : Int) ∧ z < 18446744073709551616) ∧ (∃ z : Nat, a1 = .int .u64 (z : Int) ∧ z < 18446744073709551616) := by
  obtain ⟨ys, m, rfl, hx, hl, hyl, hfl⟩ := DataW.trod_struct Try.underlying36 hf
  match ys, hyl with
  | [y0, y1], _ =>
    have k0 : Try.prog.cellsOf 34 = 1 := by kernel_rfl
    have r0 : DataW.trod enc Try.prog W 0 (fun _ => true) true m 34 (([a0, a1].drop 0).take (Try.prog.cellsOf 34)) = some y0 := hfl 0 _ rfl
    rw [k0] at r0
    have f0 : DataW.trod enc Try.prog W 0 (fun _ => true) true m 34 [a0] = some y0 := r0
    have k1 : Try.prog.cellsOf 34 = 1 := by kernel_rfl
    have r1 : DataW.trod enc Try.prog W 0 (fun _ => true) true m 34 (([a0, a1].drop 1).take (Try.prog.cellsOf 34)) = some y1 := hfl 1 _ rfl
    rw [k1] at r1
    have f1 : DataW.trod enc Try.prog W 0 (fun _ => true) true m 34 [a1] = some y1 := r1
    clear r0 r1 hfl
    obtain ⟨z0, g0, -, w0⟩ := DataW.trod_int Try.underlying34 f0
    obtain ⟨n0, rfl⟩ := Int.eq_ofNat_of_zero_le (bndU w0).1
    simp at g0
    obtain ⟨z1, g1, -, w1⟩ := DataW.trod_int Try.underlying34 f1
    obtain ⟨n1, rfl⟩ := Int.eq_ofNat_of_zero_le (bndU w1).1
    simp at g1
    exact ⟨⟨n0, g0, by have := (bndU w0).2; omega⟩, ⟨n1, g1, by have := (bndU w1).2; omega⟩⟩
set_option maxRecDepth 100000 in
theorem top_I {H : Type} {enc : TypeId × Value → H} {W : World} {base : Nat} {v : Value} {d : DataW H} {ps : List MemPlace} (hv : Value.okWide Try.prog W .any base 36 v) (h : DataW.Trod enc Try.prog W 0 (fun _ => true) true 36 v d ps) :
    ∃ a0 a1, v = .agg #[a0, a1] ∧ ∃ fuel, DataW.trod enc Try.prog W 0 (fun _ => true) true fuel 36 [a0, a1] = some (d, ps) := by
  obtain ⟨cs, rfl, hsz⟩ := okWide_struct Try.underlying36 hv
  obtain ⟨fuel, hf⟩ := h
  have hc : Try.prog.cellsOf 36 = 2 := by kernel_rfl
  rw [hc] at hsz
  obtain ⟨a0, a1, rfl⟩ : ∃ a0 a1, cs = #[a0, a1] := by
    obtain ⟨l⟩ := cs
    match l, hsz with
    | [a0, a1], _ => exact ⟨a0, a1, rfl⟩
  exact ⟨a0, a1, rfl, fuel, hf⟩
set_option maxRecDepth 100000 in
theorem lifted (os : Os) (started : os.Started) (H : Type) (enc : TypeId × Value → H) :
    ReturnsInHanded {} Try.checked os 6 .any (Rows.shortMeetsSpec.pre6 enc Try.prog Try.f6 Rows.shortMeetsRow.domain false) (Rows.shortMeetsSpec.post enc Try.prog Try.f6 false true false false) := by
  refine returnsInHanded_of_change (C := Try.checked) own started (by kernel_rfl) Try.func6
    (ChangeSpec.witness6 (enc := enc) (C := Try.checked) false ⟨#[], #[.agg #[.int .u32 0, .int .u32 0], .agg #[.int .u32 0, .int .u32 0], .agg #[.int .u64 0, .int .u64 0], .agg #[.int .u64 0, .int .u64 0]], []⟩ 8 (by kernel_rfl) (by kernel_rfl) (by kernel_rfl) (by kernel_rfl)) ?_
  intro W base args ds gs before hval0 hW hcnd _
  have hval : ∀ (j : Nat) t v, Try.f6.params[j]? = some t → args[j]? = some v → Value.okWide Try.prog W .any base t v := hval0
  clear hval0
  have hW' := hW
  obtain ⟨p, q, hA0, hV, rfl, hfz, hnd⟩ := hW
  have hA : DataW.TrodAll enc Try.prog W 0 (fun _ => true) true Try.f6.params.toList args.toList ds p := hA0
  rw [Try.params6] at hA hval
  obtain ⟨v0, vs0, d0, ds0, p0, q0, hargs, rfl, rfl, h0, r0⟩ := trodAll_cons hA
  obtain ⟨v1, vs1, d1, ds1, p1, q1, rfl, rfl, rfl, h1, r1⟩ := trodAll_cons r0
  obtain ⟨v2, vs2, d2, ds2, p2, q2, rfl, rfl, rfl, h2, r2⟩ := trodAll_cons r1
  obtain ⟨v3, vs3, d3, ds3, p3, q3, rfl, rfl, rfl, h3, r3⟩ := trodAll_cons r2
  obtain ⟨rfl, rfl, rfl⟩ := trodAll_nil r3
  obtain rfl : args = #[v0, v1, v2, v3] := by cases args; simp_all
  obtain ⟨rfl, rfl⟩ := trodVars_none hV
  clear hA0
  simp only [List.append_nil] at hW'
  have hlt : ∀ x, x ∈ p0 ∨ x ∈ p1 ∨ x ∈ p2 ∨ x ∈ p3 → x.block < W.heap.size := fun x hx => by simpa using hW'.lt x (by simpa [List.mem_append] using hx)
  have ha0 : ∀ (W' : World), Below W.heap.size W W' → DataW.Trod enc Try.prog W' 0 (fun b => decide (b < W.heap.size)) true 24 v0 d0 p0 :=
    fun W' hn => Below.trod laidOut (by kernel_rfl) (of_decide_eq_true (by kernel_rfl)) h0 hn (fun x hx => hlt x (Or.inl hx))
  have ha1 : ∀ (W' : World), Below W.heap.size W W' → DataW.Trod enc Try.prog W' 0 (fun b => decide (b < W.heap.size)) true 24 v1 d1 p1 :=
    fun W' hn => Below.trod laidOut (by kernel_rfl) (of_decide_eq_true (by kernel_rfl)) h1 hn (fun x hx => hlt x (Or.inr (Or.inl hx)))
  have ha2 : ∀ (W' : World), Below W.heap.size W W' → DataW.Trod enc Try.prog W' 0 (fun b => decide (b < W.heap.size)) true 36 v2 d2 p2 :=
    fun W' hn => Below.trod laidOut (by kernel_rfl) (of_decide_eq_true (by kernel_rfl)) h2 hn (fun x hx => hlt x (Or.inr (Or.inr (Or.inl hx))))
  have ha3 : ∀ (W' : World), Below W.heap.size W W' → DataW.Trod enc Try.prog W' 0 (fun b => decide (b < W.heap.size)) true 36 v3 d3 p3 :=
    fun W' hn => Below.trod laidOut (by kernel_rfl) (of_decide_eq_true (by kernel_rfl)) h3 hn (fun x hx => hlt x (Or.inr (Or.inr (Or.inr (hx)))))
  obtain ⟨b0_0, b0_1, rfl, fu0, hf0⟩ := top_T (hval 0 24 v0 rfl rfl) h0
  obtain ⟨⟨x0_0, rfl, lx0_0⟩, ⟨x0_1, rfl, lx0_1⟩⟩ := op_T hf0
  obtain ⟨b1_0, b1_1, rfl, fu1, hf1⟩ := top_T (hval 1 24 v1 rfl rfl) h1
  obtain ⟨⟨x1_0, rfl, lx1_0⟩, ⟨x1_1, rfl, lx1_1⟩⟩ := op_T hf1
  obtain ⟨b2_0, b2_1, rfl, fu2, hf2⟩ := top_I (hval 2 36 v2 rfl rfl) h2
  obtain ⟨⟨x2_0, rfl, lx2_0⟩, ⟨x2_1, rfl, lx2_1⟩⟩ := op_I hf2
  obtain ⟨b3_0, b3_1, rfl, fu3, hf3⟩ := top_I (hval 3 36 v3 rfl rfl) h3
  obtain ⟨⟨x3_0, rfl, lx3_0⟩, ⟨x3_1, rfl, lx3_1⟩⟩ := op_I hf3
  refine (sMeets_ x0_0 x0_1 x1_0 x1_1 x2_0 x2_1 x3_0 x3_1 lx0_0 lx0_1 lx1_0 lx1_1 lx2_0 lx2_1 lx3_0 lx3_1 W).mono fun e W' ⟨he, hnx⟩ => ?_
  subst he
  refine ⟨_, rfl, _, _, _, [], _, [], hW', ?_, trodAll_cons_mk (ha0 _ hnx) (trodAll_cons_mk (ha1 _ hnx) (trodAll_cons_mk (ha2 _ hnx) (trodAll_cons_mk (ha3 _ hnx) trodAll_mk0))), rfl, World.keptBut_mono (fun _ f => f.elim) (Below.frame hnx (fun _ => False)), fun h => by cases h⟩
  exact trodAll_cons_mk (shut_bool Try.underlying4 _) trodAll_mk0
set_option maxRecDepth 100000 in
theorem over : Rows.shortMeetsRow.holds Try.pinned (OpenSpec.ofChange Rows.shortMeetsSpec) :=
  OpenClaim.holds_of_wide 6 Try.f6 rfl rfl rfl rfl rfl rfl rfl ⟨rfl, rfl, rfl, rfl, rfl⟩ rfl rfl rfl rfl rfl (by kernel_rfl) Try.func6 (by kernel_rfl)
    (of_decide_eq_true (by kernel_rfl)) (by unfold Func.isWrapper; first | (rw [if_pos (by decide +kernel)]; kernel_rfl) | (rw [if_neg (by decide +kernel)]; exact ⟨rfl, rfl⟩))
    (fun os started H enc _ => lifted os started H enc)
theorem proved : Rows.ShortMeetsSaid :=
  over
end Go.Proofs.Ytjkbapnndoldgaa.shortMeets

namespace Go.Proofs.Ytjkbapnndoldgaa
theorem shortMeets_holds : Rows.ShortMeetsSaid := shortMeets.proved
end Go.Proofs.Ytjkbapnndoldgaa
