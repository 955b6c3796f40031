import Derived.Test.YtkheefoabcibkaaGreatDoorProg
import Derived.Test.YtkheefoabcibkaaGreatDoorRows
import Derived.Test.YtkheefoabcibkaaGreatDoorProg
import Derived.Test.YtkheefoabcibkaaGreatDoorProg
import Derived.Test.YtkheefoabcibkaaGreatDoorCards
import Derived.Test.YtkheefoabcibkaaGreatDoorTie
import Derived.Test.YtkheefoabcibkaaGreatDoorKDIvalGrows0
import Derived.WalkKit
import Derived.ProofKit
import Derived.RowKit3
import Derived.WalkSpells
import Derived.StillTactics
import Derived.Deep.QuietTactic
import Derived.BigQuiet
import Derived.Below
import Derived.Deep.OwnRows
import Derived.OpenShut
import Derived.ChangeSlices
import Derived.Carry
import Derived.Deep.DeepHandedRow
import Derived.Deep.DeepWitnessRowRef
import Derived.Lib.LaidTab
import Derived.LaidMore
import Derived.Stop.Joined
import Derived.SevenTiedAt
import Derived.MakeChecks
import Derived.OwnWalk
import Derived.Lib.SmallJoins
namespace Go.Proofs.YtkheefoabcibkaaGreatDoor
open Go.RowKit

namespace ivalGrows
open Go.ChangeShapes Go.WideShapes Go.ChangeAt Go.RowKit
set_option maxRecDepth 100000 in
theorem cellsTwo : Tryz.prog.cellsOf 36 = 2 := by kernel_rfl
theorem own : ownKnob Tryz.prog.godebug = none := by kernel_rfl
set_option maxRecDepth 100000 in
theorem laid_tail {P : Program} {W : World} {x : String × DataW Unit} {rest : List (String × DataW Unit)} (h : laidMet P (x :: rest) W) : laidMet P rest W := by
  obtain ⟨ps, hl, hn, hc⟩ := h
  obtain ⟨n, d⟩ := x
  obtain ⟨g, t, cs, fuel, p, q, _, _, _, _, hq, rfl⟩ := hl
  exact ⟨q, hq, (List.nodup_append.1 hn).2.1, fun b off hm => hc b off (List.mem_append_right _ hm)⟩
set_option maxRecDepth 100000 in
theorem gTab0 : Tryz.prog.globalNamed "math/bits.deBruijn32tab" = some 2 := by kernel_rfl
set_option maxRecDepth 100000 in
theorem tabEq0 : (Rows.laid_math_bits_deBruijn32tab : DataW Unit) = Lib.tabData .u8 tabL := rfl
set_option maxRecDepth 100000 in
theorem tab_of_laid0 {W : World} (h : laidMetH Tryz.prog Rows.ivalGrowsRow.laid W) : Tab W := by
  have h0 : laidMetH Tryz.prog [("math/bits.deBruijn32tab", Rows.laid_math_bits_deBruijn32tab), ("math/bits.deBruijn64tab", Rows.laid_math_bits_deBruijn64tab)] W := h
  rw [MakeChecks.laidMetH_plain _ _ _ (by kernel_rfl)] at h0
  rw [tabEq0] at h0
  have ht := Lib.tabIs_of_head (t := 149) (e := 5) (n := 32) gTab0 (by kernel_rfl) (by kernel_rfl) (by kernel_rfl) (by kernel_rfl) (by kernel_rfl) h0
  exact fun i hi => ht.cell gTab0 i (by simpa [tabL] using hi)
set_option maxRecDepth 100000 in
theorem gTab1 : Tryz.prog.globalNamed "math/bits.deBruijn64tab" = some 1 := by kernel_rfl
set_option maxRecDepth 100000 in
theorem tabEq1 : (Rows.laid_math_bits_deBruijn64tab : DataW Unit) = Lib.tabData .u8 Fq.tabL := rfl
set_option maxRecDepth 100000 in
theorem tab_of_laid1 {W : World} (h : laidMetH Tryz.prog Rows.ivalGrowsRow.laid W) : Fq.Tab W := by
  have h0 : laidMetH Tryz.prog [("math/bits.deBruijn32tab", Rows.laid_math_bits_deBruijn32tab), ("math/bits.deBruijn64tab", Rows.laid_math_bits_deBruijn64tab)] W := h
  rw [MakeChecks.laidMetH_plain _ _ _ (by kernel_rfl)] at h0
  replace h0 := laid_tail h0
  rw [tabEq1] at h0
  have ht := Lib.tabIs_of_head (t := 103) (e := 5) (n := 64) gTab1 (by kernel_rfl) (by kernel_rfl) (by kernel_rfl) (by kernel_rfl) (by kernel_rfl) h0
  exact fun i hi => ht.cell gTab1 i (by simpa [Fq.tabL] using hi)
set_option maxRecDepth 100000 in
theorem laidOut : laidOutB Tryz.prog = true := by kernel_rfl
theorem bndU {z : Int} (h : (Lit.int .u64 z).wf = true) : 0 ≤ z ∧ z < 18446744073709551616 := by
  have e1 : IntKind.u64.min = 0 := rfl
  have e2 : IntKind.u64.max = 18446744073709551615 := rfl
  simp [Lit.wf, e1, e2] at h
  omega
set_option maxRecDepth 100000 in
theorem bndI {z : Int} (h : (Lit.int .i64 z).wf = true) : -9223372036854775808 ≤ z ∧ z < 9223372036854775808 := by
  have e1 : IntKind.i64.min = -9223372036854775808 := rfl
  have e2 : IntKind.i64.max = 9223372036854775807 := rfl
  simp [Lit.wf, e1, e2] at h
  omega
set_option maxRecDepth 100000 in
theorem bulk_len {H : Type} (l : List (DataW H)) : l.length ≤ Rows.uptoBulkAll l := by
  induction l with
  | nil => simp [Rows.uptoBulkAll]
  | cons x r ih =>
    have h1 : 1 ≤ Rows.uptoBulk x := by cases x <;> first | (simp [Rows.uptoBulk]; done) | (rename_i l; cases l <;> simp [Rows.uptoBulk])
    simp only [Rows.uptoBulkAll, List.length_cons]
    omega
set_option maxRecDepth 100000 in
theorem op_I {H : Type} {enc : TypeId × Value → H} {W : World} {a0 a1 : Value} {fuel : Nat} {y : DataW H × List MemPlace} (hf : DataW.trod enc Tryz.prog W 0 (fun _ => true) true fuel 36 [a0, a1] = some y) : (∃ z : Nat, a0 = .int .u64 (z : Int) ∧ z < 18446744073709551616) ∧ (∃ z : Nat, a1 = .int .u64 (z : Int) ∧ z < 18446744073709551616) := by
  obtain ⟨ys, m, rfl, hx, hl, hyl, hfl⟩ := DataW.trod_struct Tryz.underlying36 hf
  match ys, hyl with
  | [y0, y1], _ =>
    have k0 : Tryz.prog.cellsOf 34 = 1 := by kernel_rfl
    have r0 : DataW.trod enc Tryz.prog W 0 (fun _ => true) true m 34 (([a0, a1].drop 0).take (Tryz.prog.cellsOf 34)) = some y0 := hfl 0 _ rfl
    rw [k0] at r0
    have f0 : DataW.trod enc Tryz.prog W 0 (fun _ => true) true m 34 [a0] = some y0 := r0
    have k1 : Tryz.prog.cellsOf 34 = 1 := by kernel_rfl
    have r1 : DataW.trod enc Tryz.prog W 0 (fun _ => true) true m 34 (([a0, a1].drop 1).take (Tryz.prog.cellsOf 34)) = some y1 := hfl 1 _ rfl
    rw [k1] at r1
    have f1 : DataW.trod enc Tryz.prog W 0 (fun _ => true) true m 34 [a1] = some y1 := r1
    clear r0 r1 hfl
    obtain ⟨z0, g0, -, w0⟩ := DataW.trod_int Tryz.underlying34 f0
    obtain ⟨n0, rfl⟩ := Int.eq_ofNat_of_zero_le (bndU w0).1
    simp at g0
    obtain ⟨z1, g1, -, w1⟩ := DataW.trod_int Tryz.underlying34 f1
    obtain ⟨n1, rfl⟩ := Int.eq_ofNat_of_zero_le (bndU w1).1
    simp at g1
    exact ⟨⟨n0, g0, by have := (bndU w0).2; omega⟩, ⟨n1, g1, by have := (bndU w1).2; omega⟩⟩
set_option maxRecDepth 100000 in
theorem top_I {H : Type} {enc : TypeId × Value → H} {W : World} {base : Nat} {v : Value} {d : DataW H} {ps : List MemPlace} (hv : Value.okWide Tryz.prog W .any base 36 v) (h : DataW.Trod enc Tryz.prog W 0 (fun _ => true) true 36 v d ps) :
    ∃ a0 a1, v = .agg #[a0, a1] ∧ ∃ fuel, DataW.trod enc Tryz.prog W 0 (fun _ => true) true fuel 36 [a0, a1] = some (d, ps) := by
  obtain ⟨cs, rfl, hsz⟩ := okWide_struct Tryz.underlying36 hv
  obtain ⟨fuel, hf⟩ := h
  have hc : Tryz.prog.cellsOf 36 = 2 := by kernel_rfl
  rw [hc] at hsz
  obtain ⟨a0, a1, rfl⟩ : ∃ a0 a1, cs = #[a0, a1] := by
    obtain ⟨l⟩ := cs
    match l, hsz with
    | [a0, a1], _ => exact ⟨a0, a1, rfl⟩
  exact ⟨a0, a1, rfl, fuel, hf⟩
set_option maxRecDepth 100000 in
theorem op_N {H : Type} {enc : TypeId × Value → H} {W : World} {a0 a1 a2 a3 a4 a5 a6 a7 a8 a9 a10 a11 : Value} {fuel : Nat} {y : DataW H × List MemPlace} (hf : DataW.trod enc Tryz.prog W 0 (fun _ => true) true fuel 38 [a0, a1, a2, a3, a4, a5, a6, a7, a8, a9, a10, a11] = some y) : (∃ z : Nat, a0 = .int .u64 (z : Int) ∧ z < 18446744073709551616) ∧ (∃ z : Nat, a1 = .int .u64 (z : Int) ∧ z < 18446744073709551616) ∧ (∃ z : Nat, a2 = .int .u64 (z : Int) ∧ z < 18446744073709551616) ∧ (∃ z : Nat, a3 = .int .u64 (z : Int) ∧ z < 18446744073709551616) ∧ (∃ z : Nat, a4 = .int .u64 (z : Int) ∧ z < 18446744073709551616) ∧ (∃ z : Nat, a5 = .int .u64 (z : Int) ∧ z < 18446744073709551616) ∧ (∃ z : Nat, a6 = .int .u64 (z : Int) ∧ z < 18446744073709551616) ∧ (∃ z : Nat, a7 = .int .u64 (z : Int) ∧ z < 18446744073709551616) ∧ (∃ z : Nat, a8 = .int .u64 (z : Int) ∧ z < 18446744073709551616) ∧ (∃ z : Nat, a9 = .int .u64 (z : Int) ∧ z < 18446744073709551616) ∧ (∃ z : Nat, a10 = .int .u64 (z : Int) ∧ z < 18446744073709551616) ∧ (∃ z : Nat, a11 = .int .u64 (z : Int) ∧ z < 18446744073709551616) := by
  obtain ⟨ys, m, rfl, hx, hl, hyl, hfl⟩ := DataW.trod_struct Tryz.underlying38 hf
  match ys, hyl with
  | [y0, y1, y2, y3, y4, y5], _ =>
    have k0 : Tryz.prog.cellsOf 36 = 2 := by kernel_rfl
    have r0 : DataW.trod enc Tryz.prog W 0 (fun _ => true) true m 36 (([a0, a1, a2, a3, a4, a5, a6, a7, a8, a9, a10, a11].drop 0).take (Tryz.prog.cellsOf 36)) = some y0 := hfl 0 _ rfl
    rw [k0] at r0
    have f0 : DataW.trod enc Tryz.prog W 0 (fun _ => true) true m 36 [a0, a1] = some y0 := r0
    have k1 : Tryz.prog.cellsOf 36 = 2 := by kernel_rfl
    have r1 : DataW.trod enc Tryz.prog W 0 (fun _ => true) true m 36 (([a0, a1, a2, a3, a4, a5, a6, a7, a8, a9, a10, a11].drop 2).take (Tryz.prog.cellsOf 36)) = some y1 := hfl 1 _ rfl
    rw [k1] at r1
    have f1 : DataW.trod enc Tryz.prog W 0 (fun _ => true) true m 36 [a2, a3] = some y1 := r1
    have k2 : Tryz.prog.cellsOf 36 = 2 := by kernel_rfl
    have r2 : DataW.trod enc Tryz.prog W 0 (fun _ => true) true m 36 (([a0, a1, a2, a3, a4, a5, a6, a7, a8, a9, a10, a11].drop 4).take (Tryz.prog.cellsOf 36)) = some y2 := hfl 2 _ rfl
    rw [k2] at r2
    have f2 : DataW.trod enc Tryz.prog W 0 (fun _ => true) true m 36 [a4, a5] = some y2 := r2
    have k3 : Tryz.prog.cellsOf 36 = 2 := by kernel_rfl
    have r3 : DataW.trod enc Tryz.prog W 0 (fun _ => true) true m 36 (([a0, a1, a2, a3, a4, a5, a6, a7, a8, a9, a10, a11].drop 6).take (Tryz.prog.cellsOf 36)) = some y3 := hfl 3 _ rfl
    rw [k3] at r3
    have f3 : DataW.trod enc Tryz.prog W 0 (fun _ => true) true m 36 [a6, a7] = some y3 := r3
    have k4 : Tryz.prog.cellsOf 36 = 2 := by kernel_rfl
    have r4 : DataW.trod enc Tryz.prog W 0 (fun _ => true) true m 36 (([a0, a1, a2, a3, a4, a5, a6, a7, a8, a9, a10, a11].drop 8).take (Tryz.prog.cellsOf 36)) = some y4 := hfl 4 _ rfl
    rw [k4] at r4
    have f4 : DataW.trod enc Tryz.prog W 0 (fun _ => true) true m 36 [a8, a9] = some y4 := r4
    have k5 : Tryz.prog.cellsOf 36 = 2 := by kernel_rfl
    have r5 : DataW.trod enc Tryz.prog W 0 (fun _ => true) true m 36 (([a0, a1, a2, a3, a4, a5, a6, a7, a8, a9, a10, a11].drop 10).take (Tryz.prog.cellsOf 36)) = some y5 := hfl 5 _ rfl
    rw [k5] at r5
    have f5 : DataW.trod enc Tryz.prog W 0 (fun _ => true) true m 36 [a10, a11] = some y5 := r5
    clear r0 r1 r2 r3 r4 r5 hfl
    obtain ⟨s0_0, s0_1⟩ := op_I f0
    obtain ⟨s1_0, s1_1⟩ := op_I f1
    obtain ⟨s2_0, s2_1⟩ := op_I f2
    obtain ⟨s3_0, s3_1⟩ := op_I f3
    obtain ⟨s4_0, s4_1⟩ := op_I f4
    obtain ⟨s5_0, s5_1⟩ := op_I f5
    exact ⟨s0_0, s0_1, s1_0, s1_1, s2_0, s2_1, s3_0, s3_1, s4_0, s4_1, s5_0, s5_1⟩
set_option maxRecDepth 100000 in
theorem top_N {H : Type} {enc : TypeId × Value → H} {W : World} {base : Nat} {v : Value} {d : DataW H} {ps : List MemPlace} (hv : Value.okWide Tryz.prog W .any base 38 v) (h : DataW.Trod enc Tryz.prog W 0 (fun _ => true) true 38 v d ps) :
    ∃ a0 a1 a2 a3 a4 a5 a6 a7 a8 a9 a10 a11, v = .agg #[a0, a1, a2, a3, a4, a5, a6, a7, a8, a9, a10, a11] ∧ ∃ fuel, DataW.trod enc Tryz.prog W 0 (fun _ => true) true fuel 38 [a0, a1, a2, a3, a4, a5, a6, a7, a8, a9, a10, a11] = some (d, ps) := by
  obtain ⟨cs, rfl, hsz⟩ := okWide_struct Tryz.underlying38 hv
  obtain ⟨fuel, hf⟩ := h
  have hc : Tryz.prog.cellsOf 38 = 12 := by kernel_rfl
  rw [hc] at hsz
  obtain ⟨a0, a1, a2, a3, a4, a5, a6, a7, a8, a9, a10, a11, rfl⟩ : ∃ a0 a1 a2 a3 a4 a5 a6 a7 a8 a9 a10 a11, cs = #[a0, a1, a2, a3, a4, a5, a6, a7, a8, a9, a10, a11] := by
    obtain ⟨l⟩ := cs
    match l, hsz with
    | [a0, a1, a2, a3, a4, a5, a6, a7, a8, a9, a10, a11], _ => exact ⟨a0, a1, a2, a3, a4, a5, a6, a7, a8, a9, a10, a11, rfl⟩
  exact ⟨a0, a1, a2, a3, a4, a5, a6, a7, a8, a9, a10, a11, rfl, fuel, hf⟩
set_option maxRecDepth 100000 in
theorem contract (H : Type) (enc : TypeId × Value → H) (W : World) (base : Nat) (args : Array Value) (ds gs : List (DataW H)) (before : List MemPlace)
    (hval : ∀ (j : Nat) t v, Tryz.f4.params[j]? = some t → args[j]? = some v → Value.okWide Tryz.prog W .any base t v)
    (hW : DataW.Whole enc Tryz.prog Tryz.f4.params.toList Rows.ivalGrowsSpec.vars false W args.toList ds gs before) (hL0 : Tab W) (hL1 : Fq.Tab W) :
    Calls Tryz.prog 4 args W fun e W' => ∃ v, e = .returned v ∧ Rows.ivalGrowsSpec.post enc Tryz.prog Tryz.f4 false true false false W args v W' := by
  have hW' := hW
  obtain ⟨p, q, hA0, hV, rfl, hfz, hnd⟩ := hW
  have hA : DataW.TrodAll enc Tryz.prog W 0 (fun _ => true) true Tryz.f4.params.toList args.toList ds p := hA0
  rw [Tryz.params4] at hA hval
  obtain ⟨v0, vs0, d0, ds0, p0, q0, hargs, rfl, rfl, h0, r0⟩ := trodAll_cons hA
  obtain ⟨rfl, rfl, rfl⟩ := trodAll_nil r0
  obtain rfl : args = #[v0] := by cases args; simp_all
  obtain ⟨rfl, rfl⟩ := trodVars_none hV
  clear hA0
  simp only [List.append_nil] at hW'
  have hlt : ∀ x, x ∈ p0 → x.block < W.heap.size := fun x hx => by simpa using hW'.lt x (by simpa [List.mem_append] using hx)
  have ha0 : ∀ (W' : World), Below W.heap.size W W' → DataW.Trod enc Tryz.prog W' 0 (fun b => decide (b < W.heap.size)) true 38 v0 d0 p0 :=
    fun W' hn => Below.trod laidOut (by kernel_rfl) (of_decide_eq_true (by kernel_rfl)) h0 hn (fun x hx => hlt x hx)
  obtain ⟨b0_0, b0_1, b0_2, b0_3, b0_4, b0_5, b0_6, b0_7, b0_8, b0_9, b0_10, b0_11, rfl, fu0, hf0⟩ := top_N (hval 0 38 v0 rfl rfl) h0
  obtain ⟨⟨x0_0, rfl, lx0_0⟩, ⟨x0_1, rfl, lx0_1⟩, ⟨x0_2, rfl, lx0_2⟩, ⟨x0_3, rfl, lx0_3⟩, ⟨x0_4, rfl, lx0_4⟩, ⟨x0_5, rfl, lx0_5⟩, ⟨x0_6, rfl, lx0_6⟩, ⟨x0_7, rfl, lx0_7⟩, ⟨x0_8, rfl, lx0_8⟩, ⟨x0_9, rfl, lx0_9⟩, ⟨x0_10, rfl, lx0_10⟩, ⟨x0_11, rfl, lx0_11⟩⟩ := op_N hf0
  refine (grows_ x0_0 x0_1 x0_2 x0_3 x0_4 x0_5 x0_6 x0_7 x0_8 x0_9 x0_10 x0_11 lx0_0 lx0_1 lx0_2 lx0_3 lx0_4 lx0_5 lx0_6 lx0_7 lx0_8 lx0_9 lx0_10 lx0_11 W hL0 hL1).mono fun e W' ⟨he, hnx⟩ => ?_
  subst he
  refine ⟨_, rfl, _, _, _, [], _, [], hW', ?_, trodAll_cons_mk (ha0 _ hnx) trodAll_mk0, rfl, World.keptBut_mono (fun _ f => f.elim) (Below.frame hnx (fun _ => False)), fun h => by cases h⟩
  exact trodAll_cons_mk (shut_bool Tryz.underlying4 _) trodAll_mk0
set_option maxRecDepth 100000 in
theorem laid_met (os : Os) : laidMet Tryz.prog Rows.ivalGrowsRow.laid ((World.doorLaid Tryz.prog 14 os).forCall (fun _ _ => 0) ⟨#[], #[.agg #[.int .u64 0, .int .u64 0, .int .u64 0, .int .u64 0, .int .u64 0, .int .u64 0, .int .u64 0, .int .u64 0, .int .u64 0, .int .u64 0, .int .u64 0, .int .u64 0]], []⟩).memory :=
  laidMet_of_run' 8 (by kernel_rfl) (by kernel_rfl)
set_option maxRecDepth 100000 in
theorem reads (os : Os) {H : Type} (enc : TypeId × Value → H) : ∃ places, DataW.whole enc Tryz.prog ((World.doorLaid Tryz.prog 14 os).forCall (fun _ _ => 0) ⟨#[], #[.agg #[.int .u64 0, .int .u64 0, .int .u64 0, .int .u64 0, .int .u64 0, .int .u64 0, .int .u64 0, .int .u64 0, .int .u64 0, .int .u64 0, .int .u64 0, .int .u64 0]], []⟩).memory Tryz.f4.params.toList Rows.ivalGrowsSpec.vars false #[Value.agg #[.int .u64 0, .int .u64 0, .int .u64 0, .int .u64 0, .int .u64 0, .int .u64 0, .int .u64 0, .int .u64 0, .int .u64 0, .int .u64 0, .int .u64 0, .int .u64 0]].toList 8 = some ([.agg [.agg [.lit (.int .u64 0), .lit (.int .u64 0)], .agg [.lit (.int .u64 0), .lit (.int .u64 0)], .agg [.lit (.int .u64 0), .lit (.int .u64 0)], .agg [.lit (.int .u64 0), .lit (.int .u64 0)], .agg [.lit (.int .u64 0), .lit (.int .u64 0)], .agg [.lit (.int .u64 0), .lit (.int .u64 0)]]], [], places) :=
  ⟨[], by kernel_rfl⟩
set_option maxRecDepth 100000 in
theorem lifted (os : Os) (started : os.Started) (H : Type) (enc : TypeId × Value → H) (F : Stop.Interp) :
    ReturnsInHanded {} Tryz.checked os 4 .any ((OpenSpec.ofChange Rows.ivalGrowsSpec).preRow enc Tryz.prog Tryz.f4 Rows.ivalGrowsRow.domain false Rows.ivalGrowsRow.laid) (((OpenSpec.ofChange Rows.ivalGrowsSpec).at F).post enc Tryz.prog Tryz.f4 false true false false) := by
  obtain ⟨places, hx⟩ := reads os enc
  refine returnsInHanded_of_row (C := Tryz.checked) (s := OpenSpec.ofChange Rows.ivalGrowsSpec) own started (by kernel_rfl) Tryz.func4
    (witness_row_atRef (enc := enc) (C := Tryz.checked) false (World.doorLaid Tryz.prog 14 os) #[.agg #[.int .u64 0, .int .u64 0, .int .u64 0, .int .u64 0, .int .u64 0, .int .u64 0, .int .u64 0, .int .u64 0, .int .u64 0, .int .u64 0, .int .u64 0, .int .u64 0]] rfl (by kernel_rfl) (by kernel_rfl) (by kernel_rfl)
      (OpenSpec.preRow_of_cond 8 hx (by kernel_rfl) (fun k hk => by cases hk) (by kernel_rfl) (laid_met os))) ?_
  intro W base args ds gs before hval hW _ _ _ hl _ _
  exact contract H enc W base args ds gs before hval hW (tab_of_laid0 hl) (tab_of_laid1 hl)
set_option maxRecDepth 100000 in
theorem said : Rows.IvalGrowsSaid :=
  OpenClaim.holds_of_cond 4 Tryz.f4 rfl rfl rfl rfl rfl rfl rfl ⟨rfl, rfl, rfl, rfl, rfl⟩ rfl rfl rfl rfl rfl (by kernel_rfl) Tryz.func4 (by kernel_rfl)
    (of_decide_eq_true (by kernel_rfl)) (by unfold Func.isWrapper; first | (rw [if_pos (by decide +kernel)]; kernel_rfl) | (rw [if_neg (by decide +kernel)]; exact ⟨rfl, rfl⟩))
    (fun os started H enc _ F => by rw [OpenClaim.pre_eq_preRow]; exact lifted os started H enc F)
set_option maxRecDepth 100000 in
theorem plain (f : FuncId) (fn : Func) (hf : Tryz.pinned.checked.prog.funcNamed "verge/vergelaw6.IvalGrows" = some f) (hfn : Tryz.pinned.checked.prog.funcs[f]? = some fn) :
    false = Tryz.pinned.checked.prog.looks [] ∧ ∀ (j : Nat) t, fn.params[j]? = some t → Tryz.pinned.checked.prog.wantsStandIn t = false := by
  obtain rfl : f = 4 := Option.some.inj ((show Tryz.prog.funcNamed "verge/vergelaw6.IvalGrows" = some 4 by kernel_rfl).symm.trans hf) |>.symm
  obtain rfl : fn = Tryz.f4 := (Option.some.inj (Tryz.func4.symm.trans hfn)).symm
  refine ⟨by kernel_rfl, fun j t ht => ?_⟩
  rw [Tryz.params4] at ht
  have h : t = 38 := by simpa using Array.mem_of_getElem? ht
  rcases h with rfl
  exact (show Tryz.prog.wantsStandIn 38 = false by kernel_rfl)
end ivalGrows
set_option maxRecDepth 100000 in
theorem ivalGrows_holds : Rows.IvalGrowsCardSaid :=
  Claim7.holds_tied_plain_at .later [] _ _ _ _ ivalGrows.said (fun _ h => by cases h) (by kernel_rfl) (fun _ h => by cases h) ivalGrows_row_tie rfl ⟨rfl, rfl⟩ (by kernel_rfl) rfl ivalGrows.plain (by kernel_rfl)
end Go.Proofs.YtkheefoabcibkaaGreatDoor
