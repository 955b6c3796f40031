import Derived.Test.YtnkakbjndclkhaaDoorProg
import Derived.Test.YtnkakbjndclkhaaDoorRows
import Derived.Test.YtnkakbjndclkhaaDoorKXA0
import Derived.Test.YtnkakbjndclkhaaDoorKXM
import Derived.Test.YtnkakbjndclkhaaDoorKXY
import Derived.Test.YtnkakbjndclkhaaDoorKQM
import Derived.Test.YtnkakbjndclkhaaDoorKQA
import Derived.Test.YtnkakbjndclkhaaDoorKQP
import Derived.Test.YtnkakbjndclkhaaDoorKXQU
import Derived.Test.YtnkakbjndclkhaaDoorKXQF
import Derived.Test.YtnkakbjndclkhaaDoorKQB
import Derived.Test.YtnkakbjndclkhaaDoorKQBT
import Derived.Test.YtnkakbjndclkhaaDoorKQJd
import Derived.Test.YtnkakbjndclkhaaDoorKHB
import Derived.Test.YtnkakbjndclkhaaDoorKLX
import Derived.Test.YtnkakbjndclkhaaDoorKXSL
import Derived.Test.YtnkakbjndclkhaaDoorKLN
import Derived.Test.YtnkakbjndclkhaaDoorKW4
import Derived.Test.YtnkakbjndclkhaaDoorKXTZ
import Derived.Test.YtnkakbjndclkhaaDoorKXN
import Derived.Test.YtnkakbjndclkhaaDoorKH1
import Derived.Test.YtnkakbjndclkhaaDoorKH2DQ
import Derived.Test.YtnkakbjndclkhaaDoorKMR7Q
import Derived.Test.YtnkakbjndclkhaaDoorKXG1
import Derived.Test.YtnkakbjndclkhaaDoorKH3DQ
import Derived.Test.YtnkakbjndclkhaaDoorKXO
import Derived.Test.YtnkakbjndclkhaaDoorKNQ
import Derived.Test.YtnkakbjndclkhaaDoorKNS
import Derived.Test.YtnkakbjndclkhaaDoorKNC
import Derived.Test.YtnkakbjndclkhaaDoorKXT
import Derived.Test.YtnkakbjndclkhaaDoorKRX
import Derived.Test.YtnkakbjndclkhaaDoorKXRL
import Derived.Test.YtnkakbjndclkhaaDoorKRC
import Derived.Test.YtnkakbjndclkhaaDoorKRN
import Derived.Test.YtnkakbjndclkhaaDoorKBY
import Derived.Test.YtnkakbjndclkhaaDoorKBW
import Derived.Test.YtnkakbjndclkhaaDoorKNSm
import Derived.Test.YtnkakbjndclkhaaDoorKXG4
import Derived.Test.YtnkakbjndclkhaaDoorKG3D
import Derived.Test.YtnkakbjndclkhaaDoorKXO3
import Derived.Test.YtnkakbjndclkhaaDoorKO6
import Derived.Test.YtnkakbjndclkhaaDoorKXP
import Derived.Test.YtnkakbjndclkhaaDoorKXV
import Derived.Test.YtnkakbjndclkhaaDoorKXV9
import Derived.Test.YtnkakbjndclkhaaDoorCards
import Derived.Test.YtnkakbjndclkhaaDoorTie
import Derived.WalkKit
import Derived.ProofKit
import Derived.RowKit3
import Derived.WalkSpells
import Derived.StillTactics
import Derived.Deep.QuietTactic
import Derived.BigQuiet
import Derived.Below
import Derived.Deep.OwnRows
import Derived.OpenShut
import Derived.ChangeSlices
import Derived.Carry
import Derived.Deep.DeepHandedRow
import Derived.Deep.DeepWitnessRowRef
import Derived.Lib.LaidTab
import Derived.LaidMore
import Derived.Stop.Joined
import Derived.SevenTiedAt
import Derived.MakeChecks
import Derived.OwnWalk
namespace Go.Proofs.YtnkakbjndclkhaaDoor
open Go.RowKit

namespace roundRatios
open Go.ChangeShapes Go.WideShapes Go.ChangeAt Go.RowKit
theorem own : ownKnob Tryd.prog.godebug = none := by kernel_rfl
theorem laid_tail {P : Program} {W : World} {x : String × DataW Unit} {rest : List (String × DataW Unit)} (h : laidMet P (x :: rest) W) : laidMet P rest W := by
  obtain ⟨ps, hl, hn, hc⟩ := h
  obtain ⟨n, d⟩ := x
  obtain ⟨g, t, cs, fuel, p, q, _, _, _, _, hq, rfl⟩ := hl
  exact ⟨q, hq, (List.nodup_append.1 hn).2.1, fun b off hm => hc b off (List.mem_append_right _ hm)⟩
set_option maxRecDepth 100000 in
theorem gTab0 : Tryd.prog.globalNamed "math/bits.deBruijn64tab" = some 1 := by kernel_rfl
set_option maxRecDepth 100000 in
theorem tabEq0 : (Rows.laid_math_bits_deBruijn64tab : DataW Unit) = Lib.tabData .u8 Fq.tabL := rfl
set_option maxRecDepth 100000 in
theorem tab_of_laid0 {W : World} (h : laidMetH Tryd.prog Rows.roundRatiosUptoRow.laid W) : Fq.Tab W := by
  have h0 : laidMetH Tryd.prog [("math/bits.deBruijn64tab", Rows.laid_math_bits_deBruijn64tab)] W := h
  rw [MakeChecks.laidMetH_plain _ _ _ (by kernel_rfl)] at h0
  rw [tabEq0] at h0
  have ht := Lib.tabIs_of_head (t := 117) (e := 5) (n := 64) gTab0 (by kernel_rfl) (by kernel_rfl) (by kernel_rfl) (by kernel_rfl) (by kernel_rfl) h0
  exact fun i hi => ht.cell gTab0 i (by simpa [Fq.tabL] using hi)
theorem laidOut : laidOutB Tryd.prog = true := by kernel_rfl
theorem cells25 : Tryd.prog.cellsOf 41 = 1 := by kernel_rfl
theorem bulk_len {H : Type} (l : List (DataW H)) : l.length ≤ Rows.uptoBulkAll l := by
  induction l with
  | nil => simp [Rows.uptoBulkAll]
  | cons x r ih =>
    have h1 : 1 ≤ Rows.uptoBulk x := by cases x <;> first | (simp [Rows.uptoBulk]; done) | (rename_i l; cases l <;> simp [Rows.uptoBulk])
    simp only [Rows.uptoBulkAll, List.length_cons]
    omega
theorem openS {H : Type} {enc : TypeId × Value → H} {W : World} {v : Value} {fuel : Nat} {y : DataW H × List MemPlace} (hf : DataW.trod enc Tryd.prog W 0 (fun _ => true) true fuel 22 [v] = some y) :
    ∃ p cap xs, v = .slice p xs.length cap ∧ Arr W p xs ∧ Wd xs ∧ xs.length ≤ cap ∧ xs.length ≤ Rows.uptoBulk y.1 := by
  rcases open_ints Tryd.underlying22 Tryd.underlying41 cells25 hf with ⟨hcs, hx⟩ | ⟨a, len, cap, zs, hcs, _, hl, hm, hz, hx, hcell, hwz⟩
  · simp at hcs
    subst hcs
    exact ⟨none, 0, [], rfl, Or.inl rfl, Wd.nil, by simp, by simp⟩
  · simp at hcs
    subst hcs
    subst hx
    simp only [if_true] at hz
    have hlen : (zs.take len).length = len := by rw [List.length_take]; omega
    refine ⟨some a, cap, zs.take len, by rw [hlen], ?_, ?_, by omega, ?_⟩
    · by_cases c : len = 0
      · left; subst c; simp
      · right
        obtain ⟨b, off, rfl, hc⟩ := ints_at hcell (by omega)
        refine ⟨b, off, rfl, fun j hj => ?_⟩
        have hj' : j < len := by omega
        rw [hc j (by omega)]
        simp [List.getD, hj']
    · intro j
      have e1 : IntKind.u32.min = 0 := rfl
      have e2 : IntKind.u32.max = 4294967295 := rfl
      by_cases c : j < (zs.take len).length
      · have hmem : (zs.take len).getD j 0 ∈ zs := by
          have : (zs.take len).getD j 0 = (zs.take len)[j] := by rw [List.getD, List.getElem?_eq_getElem c]; rfl
          rw [this]; exact List.mem_of_mem_take (List.getElem_mem c)
        obtain ⟨z, hzz⟩ : ∃ z, z = (zs.take len).getD j 0 := ⟨_, rfl⟩
        rw [← hzz] at hmem ⊢
        have h5 := hwz _ hmem
        simp [Lit.wf, e1, e2] at h5
        omega
      · have : (zs.take len).getD j 0 = 0 := by
          rw [List.getD, List.getElem?_eq_none (by omega)]; rfl
        omega
    · have h1 := bulk_len (lits (H := H) .u32 (zs.take len))
      have h2 : (lits (H := H) .u32 (zs.take len)).length = len := by simp [lits]; omega
      simp only [Rows.uptoBulk]
      omega
theorem bnd {z : Int} (h : (Lit.int .i64 z).wf = true) : -9223372036854775808 ≤ z ∧ z < 9223372036854775808 := by
  have e1 : IntKind.i64.min = -9223372036854775808 := rfl
  have e2 : IntKind.i64.max = 9223372036854775807 := rfl
  simp [Lit.wf, e1, e2] at h
  omega
set_option maxRecDepth 100000 in
theorem opened {H : Type} {enc : TypeId × Value → H} {W : World} {base : Nat} {v : Value} {d : DataW H} {ps : List MemPlace} (hv : Value.okWide Tryd.prog W .any base 24 v) (h : DataW.Trod enc Tryd.prog W 0 (fun _ => true) true 24 v d ps) (hb : Rows.uptoBulk d ≤ 1048576) :
    ∃ d0 neg p c xs q c2 ys e0, v = .agg #[.int .i64 d0, .bool neg, .slice p xs.length c, .slice q ys.length c2, .int .i64 e0] ∧ Arr W p xs ∧ Wd xs ∧ xs.length ≤ c ∧ Arr W q ys ∧ Wd ys ∧ ys.length ≤ c2 ∧ xs.length + ys.length ≤ 1048576 ∧ (-9223372036854775808 ≤ d0 ∧ d0 < 9223372036854775808) ∧ (-9223372036854775808 ≤ e0 ∧ e0 < 9223372036854775808) := by
  obtain ⟨cs, rfl, hsz⟩ := okWide_struct Tryd.underlying24 hv
  obtain ⟨fuel, hf⟩ := h
  obtain ⟨ys, m, rfl, hx, hl, hyl, hfl⟩ := DataW.trod_struct Tryd.underlying24 hf
  have hc5 : Tryd.prog.cellsOf 24 = 5 := by kernel_rfl
  rw [hc5] at hsz
  obtain ⟨a0, a1, a2, a3, a4, rfl⟩ : ∃ a0 a1 a2 a3 a4, cs = #[a0, a1, a2, a3, a4] := by
    obtain ⟨l⟩ := cs
    match l, hsz with
    | [a0, a1, a2, a3, a4], _ => exact ⟨a0, a1, a2, a3, a4, rfl⟩
  have k3 : Tryd.prog.cellsOf 3 = 1 := by kernel_rfl
  have k4 : Tryd.prog.cellsOf 4 = 1 := by kernel_rfl
  have k22 : Tryd.prog.cellsOf 22 = 1 := by kernel_rfl
  match ys, hyl with
  | [y0, y1, y2, y3, y4], _ =>
    have r0 : DataW.trod enc Tryd.prog W 0 (fun _ => true) true m 3 (([a0, a1, a2, a3, a4].drop 0).take (Tryd.prog.cellsOf 3)) = some y0 := hfl 0 _ rfl
    rw [k3] at r0
    have f0 : DataW.trod enc Tryd.prog W 0 (fun _ => true) true m 3 [a0] = some y0 := r0
    have r1 : DataW.trod enc Tryd.prog W 0 (fun _ => true) true m 4 (([a0, a1, a2, a3, a4].drop 1).take (Tryd.prog.cellsOf 4)) = some y1 := hfl 1 _ rfl
    rw [k4] at r1
    have f1 : DataW.trod enc Tryd.prog W 0 (fun _ => true) true m 4 [a1] = some y1 := r1
    have r2 : DataW.trod enc Tryd.prog W 0 (fun _ => true) true m 22 (([a0, a1, a2, a3, a4].drop 2).take (Tryd.prog.cellsOf 22)) = some y2 := hfl 2 _ rfl
    rw [k22] at r2
    have f2 : DataW.trod enc Tryd.prog W 0 (fun _ => true) true m 22 [a2] = some y2 := r2
    have r3 : DataW.trod enc Tryd.prog W 0 (fun _ => true) true m 22 (([a0, a1, a2, a3, a4].drop 3).take (Tryd.prog.cellsOf 22)) = some y3 := hfl 3 _ rfl
    rw [k22] at r3
    have f3 : DataW.trod enc Tryd.prog W 0 (fun _ => true) true m 22 [a3] = some y3 := r3
    have r4 : DataW.trod enc Tryd.prog W 0 (fun _ => true) true m 3 (([a0, a1, a2, a3, a4].drop 4).take (Tryd.prog.cellsOf 3)) = some y4 := hfl 4 _ rfl
    rw [k3] at r4
    have f4 : DataW.trod enc Tryd.prog W 0 (fun _ => true) true m 3 [a4] = some y4 := r4
    clear r0 r1 r2 r3 r4 hfl
    obtain ⟨z0, g0, -, w0⟩ := DataW.trod_int Tryd.underlying3 f0
    obtain ⟨b1, g1, -⟩ := DataW.trod_bool Tryd.underlying4 f1
    obtain ⟨z4, g4, -, w4⟩ := DataW.trod_int Tryd.underlying3 f4
    obtain ⟨p, c, xs, rfl, ax, wx, lx, bx⟩ := openS f2
    obtain ⟨q, c2, zs, rfl, az, wz, lz, bz⟩ := openS f3
    simp at g0 g1 g4
    subst g0 g1 g4
    simp only [Prod.mk.injEq] at hx
    obtain ⟨hxd, -⟩ := hx
    subst hxd
    simp only [List.map, Rows.uptoBulk, Rows.uptoBulkAll] at hb
    exact ⟨z0, b1, p, c, xs, q, c2, zs, z4, rfl, ax, wx, lx, az, wz, lz, by omega, bnd w0, bnd w4⟩
set_option maxRecDepth 100000 in
theorem contract (H : Type) (enc : TypeId × Value → H) (W : World) (base : Nat) (args : Array Value) (ds gs : List (DataW H)) (before : List MemPlace)
    (hval : ∀ (j : Nat) t v, Tryd.f4.params[j]? = some t → args[j]? = some v → Value.okWide Tryd.prog W .any base t v)
    (hW : DataW.Whole enc Tryd.prog Tryd.f4.params.toList Rows.roundRatiosSpec.vars false W args.toList ds gs before) (hL0 : Fq.Tab W) (hk : Rows.uptoSmall H (ds ++ gs) = true) :
    Calls Tryd.prog 4 args W fun e W' => ∃ v, e = .returned v ∧ Rows.roundRatiosSpec.post enc Tryd.prog Tryd.f4 false true false false W args v W' := by
  have hW' := hW
  obtain ⟨p, q, hA0, hV, rfl, hfz, hnd⟩ := hW
  have hA : DataW.TrodAll enc Tryd.prog W 0 (fun _ => true) true Tryd.f4.params.toList args.toList ds p := hA0
  rw [Tryd.params4] at hA hval
  obtain ⟨v0, vs0, d0, ds0, p0, q0, hargs, rfl, rfl, h0, r0⟩ := trodAll_cons hA
  obtain ⟨rfl, rfl, rfl⟩ := trodAll_nil r0
  obtain rfl : args = #[v0] := by cases args; simp_all
  obtain ⟨rfl, rfl⟩ := trodVars_none hV
  clear hA0
  simp only [List.append_nil] at hW' hk
  have hb : Rows.uptoBulkAll [d0] ≤ 1048576 := of_decide_eq_true hk
  simp only [Rows.uptoBulkAll] at hb
  have hlt : ∀ x ∈ p0, x.block < W.heap.size := fun x hx => by simpa using hW'.lt x (by simpa using hx)
  have ha0 : ∀ (W' : World), Below W.heap.size W W' → DataW.Trod enc Tryd.prog W' 0 (fun b => decide (b < W.heap.size)) true 24 v0 d0 p0 :=
    fun W' hn => Below.trod laidOut (by kernel_rfl) (of_decide_eq_true (by kernel_rfl)) h0 hn hlt
  obtain ⟨d, neg, pa, ca, xs, pb, cb, ys, e0, rfl, hx, hwx, cx, hy, hwy, cy, lxy, hd, he⟩ := opened (hval 0 24 v0 rfl rfl) h0 (by omega)
  refine (ratios_ d neg pa pb ca cb xs ys e0 W hL0 hd.1 hd.2 he.1 he.2 hx hy hwx hwy (by omega) (by omega) cx cy).mono fun e W' ⟨he, hnx⟩ => ?_
  subst he
  refine ⟨_, rfl, _, _, _, [], _, [], hW', ?_, trodAll_cons_mk (ha0 _ hnx) trodAll_mk0, rfl, Below.frame hnx _, fun h => by cases h⟩
  exact trodAll_cons_mk (shut_bool Tryd.underlying4 _) trodAll_mk0
set_option maxRecDepth 100000 in
theorem laid_met (os : Os) : laidMet Tryd.prog Rows.roundRatiosUptoRow.laid ((World.doorLaid Tryd.prog 14 os).forCall (fun _ _ => 0) ⟨#[], #[.agg #[.int .i64 0, .bool false, .slice none 0 0, .slice none 0 0, .int .i64 0]], []⟩).memory :=
  laidMet_of_run' 8 (by kernel_rfl) (by kernel_rfl)
set_option maxRecDepth 100000 in
theorem reads (os : Os) {H : Type} (enc : TypeId × Value → H) : ∃ places, DataW.whole enc Tryd.prog ((World.doorLaid Tryd.prog 14 os).forCall (fun _ _ => 0) ⟨#[], #[.agg #[.int .i64 0, .bool false, .slice none 0 0, .slice none 0 0, .int .i64 0]], []⟩).memory Tryd.f4.params.toList Rows.roundRatiosSpec.vars false #[Value.agg #[.int .i64 0, .bool false, .slice none 0 0, .slice none 0 0, .int .i64 0]].toList 8 = some ([.agg [.lit (.int .i64 0), .lit (.bool false), .nil, .nil, .lit (.int .i64 0)]], [], places) :=
  ⟨[], by kernel_rfl⟩
set_option maxRecDepth 100000 in
theorem liftedUpto (os : Os) (started : os.Started) (H : Type) (enc : TypeId × Value → H) (F : Stop.Interp) :
    ReturnsInHanded {} Tryd.checked os 4 .any ((Rows.OpenSpec.upto Rows.roundRatiosSpec).preRow enc Tryd.prog Tryd.f4 Rows.roundRatiosUptoRow.domain false Rows.roundRatiosUptoRow.laid) (((Rows.OpenSpec.upto Rows.roundRatiosSpec).at F).post enc Tryd.prog Tryd.f4 false true false false) := by
  obtain ⟨places, hx⟩ := reads os enc
  refine returnsInHanded_of_row (C := Tryd.checked) (s := Rows.OpenSpec.upto Rows.roundRatiosSpec) own started (by kernel_rfl) Tryd.func4
    (witness_row_atRef (enc := enc) (C := Tryd.checked) false (World.doorLaid Tryd.prog 14 os) #[.agg #[.int .i64 0, .bool false, .slice none 0 0, .slice none 0 0, .int .i64 0]] rfl (by kernel_rfl) (by kernel_rfl) (by kernel_rfl)
      (OpenSpec.preRow_of_cond 8 hx (by kernel_rfl) (fun k hk => by cases hk; kernel_rfl) (by kernel_rfl) (laid_met os))) ?_
  intro W base args ds gs before hval hW c1 c2 c3 hl _ _
  first | exact contract H enc W base args ds gs before hval hW (tab_of_laid0 hl) (c1 _ rfl) | exact contract H enc W base args ds gs before hval hW (tab_of_laid0 hl) (c2 _ rfl) | exact contract H enc W base args ds gs before hval hW (tab_of_laid0 hl) (c3 _ rfl)
set_option maxRecDepth 100000 in
theorem saidUpto : Rows.RoundRatiosUptoSaid :=
  OpenClaim.holds_of_cond 4 Tryd.f4 rfl rfl rfl rfl rfl rfl rfl ⟨rfl, rfl, rfl, rfl, rfl⟩ rfl rfl rfl rfl rfl (by kernel_rfl) Tryd.func4 (by kernel_rfl)
    (of_decide_eq_true (by kernel_rfl)) (by unfold Func.isWrapper; first | (rw [if_pos (by decide +kernel)]; kernel_rfl) | (rw [if_neg (by decide +kernel)]; exact ⟨rfl, rfl⟩))
    (fun os started H enc _ F => by rw [OpenClaim.pre_eq_preRow]; exact liftedUpto os started H enc F)
set_option maxRecDepth 100000 in
theorem plain (f : FuncId) (fn : Func) (hf : Tryd.pinned.checked.prog.funcNamed "verge/vergelaw3.RoundRatios" = some f) (hfn : Tryd.pinned.checked.prog.funcs[f]? = some fn) :
    false = Tryd.pinned.checked.prog.looks [] ∧ ∀ (j : Nat) t, fn.params[j]? = some t → Tryd.pinned.checked.prog.wantsStandIn t = false := by
  obtain rfl : f = 4 := Option.some.inj ((show Tryd.prog.funcNamed "verge/vergelaw3.RoundRatios" = some 4 by kernel_rfl).symm.trans hf) |>.symm
  obtain rfl : fn = Tryd.f4 := (Option.some.inj (Tryd.func4.symm.trans hfn)).symm
  refine ⟨by kernel_rfl, fun j t ht => ?_⟩
  rw [Tryd.params4] at ht
  have h : t = 24 := by simpa using Array.mem_of_getElem? ht
  subst h
  exact (show Tryd.prog.wantsStandIn 24 = false by kernel_rfl)
end roundRatios
set_option maxRecDepth 100000 in
theorem roundRatios_holds : Rows.RoundRatiosUptoCardSaid :=
  Claim7.holds_tied_plain_at .later [] _ _ _ _ roundRatios.saidUpto (fun _ h => by cases h) (by kernel_rfl) (fun _ h => by cases h) roundRatiosUpto_row_tie rfl ⟨rfl, rfl⟩ (by kernel_rfl) rfl roundRatios.plain (by kernel_rfl)
end Go.Proofs.YtnkakbjndclkhaaDoor
