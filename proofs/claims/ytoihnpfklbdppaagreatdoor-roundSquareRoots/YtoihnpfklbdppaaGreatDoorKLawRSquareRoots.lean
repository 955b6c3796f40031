import Derived.Test.YtoihnpfklbdppaaGreatDoorProg
import Derived.Test.YtoihnpfklbdppaaGreatDoorRows
import Derived.Test.YtoihnpfklbdppaaGreatDoorKXA0
import Derived.Test.YtoihnpfklbdppaaGreatDoorKXM
import Derived.Test.YtoihnpfklbdppaaGreatDoorKXY
import Derived.Test.YtoihnpfklbdppaaGreatDoorKXQF
import Derived.Test.YtoihnpfklbdppaaGreatDoorKQA
import Derived.Test.YtoihnpfklbdppaaGreatDoorKQP
import Derived.Test.YtoihnpfklbdppaaGreatDoorKXQU
import Derived.Test.YtoihnpfklbdppaaGreatDoorKQB
import Derived.Test.YtoihnpfklbdppaaGreatDoorKQBT
import Derived.Test.YtoihnpfklbdppaaGreatDoorKQJd
import Derived.Test.YtoihnpfklbdppaaGreatDoorKHB
import Derived.Test.YtoihnpfklbdppaaGreatDoorKLX
import Derived.Test.YtoihnpfklbdppaaGreatDoorKXMR
import Derived.Test.YtoihnpfklbdppaaGreatDoorKXG1
import Derived.Test.YtoihnpfklbdppaaGreatDoorKXH2Q
import Derived.Test.YtoihnpfklbdppaaGreatDoorKNSm
import Derived.Test.YtoihnpfklbdppaaGreatDoorKXMQ
import Derived.Test.YtoihnpfklbdppaaGreatDoorKXMS
import Derived.Test.YtoihnpfklbdppaaGreatDoorKXO3
import Derived.Test.YtoihnpfklbdppaaGreatDoorKXO
import Derived.Test.YtoihnpfklbdppaaGreatDoorKXS2
import Derived.Test.YtoihnpfklbdppaaGreatDoorKXU1
import Derived.Test.YtoihnpfklbdppaaGreatDoorKXVD
import Derived.Test.YtoihnpfklbdppaaGreatDoorKH3DQ
import Derived.Test.YtoihnpfklbdppaaGreatDoorKLN
import Derived.Test.YtoihnpfklbdppaaGreatDoorKXT
import Derived.Test.YtoihnpfklbdppaaGreatDoorKXRT
import Derived.Test.YtoihnpfklbdppaaGreatDoorKXRL
import Derived.Test.YtoihnpfklbdppaaGreatDoorKXCO
import Derived.Test.YtoihnpfklbdppaaGreatDoorKXRN
import Derived.Test.YtoihnpfklbdppaaGreatDoorKW4
import Derived.Test.YtoihnpfklbdppaaGreatDoorKBY
import Derived.Test.YtoihnpfklbdppaaGreatDoorKXBW
import Derived.Test.YtoihnpfklbdppaaGreatDoorKXTZ
import Derived.Test.YtoihnpfklbdppaaGreatDoorKXG4
import Derived.Test.YtoihnpfklbdppaaGreatDoorKVF
import Derived.Test.YtoihnpfklbdppaaGreatDoorKXVG
import Derived.Test.YtoihnpfklbdppaaGreatDoorCards
import Derived.Test.YtoihnpfklbdppaaGreatDoorTie
import Derived.WalkKit
import Derived.ProofKit
import Derived.RowKit3
import Derived.WalkSpells
import Derived.StillTactics
import Derived.Deep.QuietTactic
import Derived.BigQuiet
import Derived.Below
import Derived.Deep.OwnRows
import Derived.OpenShut
import Derived.ChangeSlices
import Derived.Carry
import Derived.Deep.DeepHandedRow
import Derived.Deep.DeepWitnessRowRef
import Derived.Lib.LaidTab
import Derived.LaidMore
import Derived.Stop.Joined
import Derived.SevenTiedAt
import Derived.MakeChecks
import Derived.OwnWalk
namespace Go.Proofs.YtoihnpfklbdppaaGreatDoor
open Go.RowKit

namespace roundSquareRoots
open Go.ChangeShapes Go.WideShapes Go.ChangeAt Go.RowKit
set_option maxRecDepth 100000 in
theorem own : ownKnob Tryz.prog.godebug = none := by kernel_rfl
set_option maxRecDepth 100000 in
theorem gTab : Tryz.prog.globalNamed "math/bits.deBruijn64tab" = some 1 := by kernel_rfl
set_option maxRecDepth 100000 in
theorem tabEq : (Rows.laid_math_bits_deBruijn64tab : DataW Unit) = Lib.tabData .u8 Fq.tabL := rfl
set_option maxRecDepth 100000 in
theorem tab_of_laid {W : World} (h : laidMetH Tryz.prog Rows.roundSquareRootsRow.laid W) : Fq.Tab W := by
  have h0 : laidMetH Tryz.prog [("math/bits.deBruijn64tab", Rows.laid_math_bits_deBruijn64tab)] W := h
  rw [MakeChecks.laidMetH_plain _ _ _ (by kernel_rfl), tabEq] at h0
  have ht := Lib.tabIs_of_head (t := 93) (e := 5) (n := 64) gTab (by kernel_rfl) (by kernel_rfl) (by kernel_rfl) (by kernel_rfl) (by kernel_rfl) h0
  exact fun i hi => ht.cell gTab i (by simpa [Fq.tabL] using hi)
set_option maxRecDepth 100000 in
theorem contract (H : Type) (enc : TypeId × Value → H) (W : World) (base : Nat) (args : Array Value) (ds gs : List (DataW H)) (before : List MemPlace)
    (hval : ∀ (j : Nat) t v, Tryz.f3.params[j]? = some t → args[j]? = some v → Value.okWide Tryz.prog W .any base t v)
    (hW : DataW.Whole enc Tryz.prog Tryz.f3.params.toList Rows.roundSquareRootsSpec.vars false W args.toList ds gs before) (hL : Fq.Tab W) :
    Calls Tryz.prog 3 args W fun e W' => ∃ v, e = .returned v ∧ Rows.roundSquareRootsSpec.post enc Tryz.prog Tryz.f3 false true false false W args v W' := by
  have hW' := hW
  obtain ⟨p, q, hA0, hV, rfl, hfz, hnd⟩ := hW
  have hA : DataW.TrodAll enc Tryz.prog W 0 (fun _ => true) true Tryz.f3.params.toList args.toList ds p := hA0
  rw [Tryz.params3] at hA hval
  obtain ⟨v0, vs0, d0, ds0, p0, q0, hargs, rfl, rfl, h0, r0⟩ := trodAll_cons hA
  obtain ⟨v1, vs1, d1, ds1, p1, q1, rfl, rfl, rfl, h1, r1⟩ := trodAll_cons r0
  obtain ⟨rfl, rfl, rfl⟩ := trodAll_nil r1
  obtain rfl : args = #[v0, v1] := by cases args; simp_all
  obtain ⟨rfl, rfl⟩ := trodVars_none hV
  clear hA0
  simp only [List.append_nil] at hW'
  obtain ⟨z0, rfl, rfl, rfl, hw0⟩ := open_int Tryz.underlying3 (hval 0 3 v0 rfl rfl) h0
  obtain ⟨z1, rfl, rfl, rfl, hw1⟩ := open_int Tryz.underlying22 (hval 1 22 v1 rfl rfl) h1
  have hz0 : -9223372036854775808 ≤ z0 ∧ z0 < 9223372036854775808 := by
    have h := hw0
    have e1 : IntKind.i64.min = -9223372036854775808 := rfl
    have e2 : IntKind.i64.max = 9223372036854775807 := rfl
    simp [Lit.wf, e1, e2] at h
    omega
  have hz1 : 0 ≤ z1 ∧ z1 < 18446744073709551616 := by
    have h := hw1
    have e1 : IntKind.u64.min = 0 := rfl
    have e2 : IntKind.u64.max = 18446744073709551615 := rfl
    simp [Lit.wf, e1, e2] at h
    omega
  obtain ⟨x, rfl⟩ := Int.eq_ofNat_of_zero_le hz1.1
  refine (squares_ z0 x W hL hz0.1 hz0.2 (by omega)).mono fun e W' ⟨he, hnx⟩ => ?_
  subst he
  refine ⟨_, rfl, _, _, _, [], _, [], hW', ?_, trodAll_cons_mk (shut_int Tryz.underlying3 hw0) (trodAll_cons_mk (shut_int Tryz.underlying22 hw1) trodAll_mk0), rfl, World.keptBut_mono (fun _ f => f.elim) (Below.frame hnx (fun _ => False)), fun h => by cases h⟩
  exact trodAll_cons_mk (shut_bool Tryz.underlying4 _) trodAll_mk0
set_option maxRecDepth 100000 in
theorem laid_met (os : Os) : laidMet Tryz.prog Rows.roundSquareRootsRow.laid ((World.doorLaid Tryz.prog 14 os).forCall (fun _ _ => 0) ⟨#[], #[.int .i64 0, .int .u64 0], []⟩).memory :=
  laidMet_of_run' 8 (by kernel_rfl) (by kernel_rfl)
set_option maxRecDepth 100000 in
theorem reads (os : Os) {H : Type} (enc : TypeId × Value → H) : ∃ places, DataW.whole enc Tryz.prog ((World.doorLaid Tryz.prog 14 os).forCall (fun _ _ => 0) ⟨#[], #[.int .i64 0, .int .u64 0], []⟩).memory Tryz.f3.params.toList Rows.roundSquareRootsSpec.vars false #[Value.int .i64 0, .int .u64 0].toList 8 = some ([.lit (.int .i64 0), .lit (.int .u64 0)], [], places) :=
  ⟨[], by kernel_rfl⟩
set_option maxRecDepth 100000 in
theorem lifted (os : Os) (started : os.Started) (H : Type) (enc : TypeId × Value → H) (F : Stop.Interp) :
    ReturnsInHanded {} Tryz.checked os 3 .any ((OpenSpec.ofChange Rows.roundSquareRootsSpec).preRow enc Tryz.prog Tryz.f3 Rows.roundSquareRootsRow.domain false Rows.roundSquareRootsRow.laid) (((OpenSpec.ofChange Rows.roundSquareRootsSpec).at F).post enc Tryz.prog Tryz.f3 false true false false) := by
  obtain ⟨places, hx⟩ := reads os enc
  refine returnsInHanded_of_row (C := Tryz.checked) (s := OpenSpec.ofChange Rows.roundSquareRootsSpec) own started (by kernel_rfl) Tryz.func3
    (witness_row_atRef (enc := enc) (C := Tryz.checked) false (World.doorLaid Tryz.prog 14 os) #[.int .i64 0, .int .u64 0] rfl (by kernel_rfl) (by kernel_rfl) (by kernel_rfl)
      (OpenSpec.preRow_of_cond 8 hx (by kernel_rfl) (fun k hk => by cases hk) (by kernel_rfl) (laid_met os))) ?_
  intro W base args ds gs before hval hW _ _ _ hl _ _
  exact contract H enc W base args ds gs before hval hW (tab_of_laid hl)
set_option maxRecDepth 100000 in
theorem said : Rows.RoundSquareRootsSaid :=
  OpenClaim.holds_of_cond 3 Tryz.f3 rfl rfl rfl rfl rfl rfl rfl ⟨rfl, rfl, rfl, rfl, rfl⟩ rfl rfl rfl rfl rfl (by kernel_rfl) Tryz.func3 (by kernel_rfl)
    (of_decide_eq_true (by kernel_rfl)) (by unfold Func.isWrapper; first | (rw [if_pos (by decide +kernel)]; kernel_rfl) | (rw [if_neg (by decide +kernel)]; exact ⟨rfl, rfl⟩))
    (fun os started H enc _ F => by rw [OpenClaim.pre_eq_preRow]; exact lifted os started H enc F)
set_option maxRecDepth 100000 in
theorem plain (f : FuncId) (fn : Func) (hf : Tryz.pinned.checked.prog.funcNamed "verge/vergelaw3.RoundSquareRoots" = some f) (hfn : Tryz.pinned.checked.prog.funcs[f]? = some fn) :
    false = Tryz.pinned.checked.prog.looks [] ∧ ∀ (j : Nat) t, fn.params[j]? = some t → Tryz.pinned.checked.prog.wantsStandIn t = false := by
  obtain rfl : f = 3 := Option.some.inj ((show Tryz.prog.funcNamed "verge/vergelaw3.RoundSquareRoots" = some 3 by kernel_rfl).symm.trans hf) |>.symm
  obtain rfl : fn = Tryz.f3 := (Option.some.inj (Tryz.func3.symm.trans hfn)).symm
  refine ⟨by kernel_rfl, fun j t ht => ?_⟩
  rw [Tryz.params3] at ht
  have h : t = 3 ∨ t = 22 := by simpa using Array.mem_of_getElem? ht
  rcases h with rfl | rfl
  · exact (show Tryz.prog.wantsStandIn 3 = false by kernel_rfl)
  · exact (show Tryz.prog.wantsStandIn 22 = false by kernel_rfl)
end roundSquareRoots
set_option maxRecDepth 100000 in
theorem roundSquareRoots_holds : Rows.RoundSquareRootsCardSaid :=
  Claim7.holds_tied_plain_at .later [] _ _ _ _ roundSquareRoots.said (fun _ h => by cases h) (by kernel_rfl) (fun _ h => by cases h) roundSquareRoots_row_tie rfl ⟨rfl, rfl⟩ (by kernel_rfl) rfl roundSquareRoots.plain (by kernel_rfl)
end Go.Proofs.YtoihnpfklbdppaaGreatDoor
