import Derived.Test.YtflhcnmbondpnaaRows
import Derived.Test.YtflhcnmbondpnaaKXA0
import Derived.Test.YtflhcnmbondpnaaKXPE
import Derived.WalkKit
import Derived.ProofKit
import Derived.OpenShut
import Derived.Lib.SmallJoins
import Derived.RowKit3
import Derived.Deep.RegionHeld3
import Derived.Deep.QuietTactic
import Derived.BigQuiet
import Derived.Below
namespace Go.Proofs.Ytflhcnmbondpnaa.powerMagnitudes
open Go.ChangeShapes Go.WideShapes Go.ChangeAt Go.RowKit Go.Joins
set_option linter.unusedVariables false

theorem own : ownKnob Try.prog.godebug = none := by kernel_rfl
theorem cellsTwo : Try.prog.cellsOf 24 = 2 := by kernel_rfl
theorem bndU {z : Int} (h : (Lit.int .u64 z).wf = true) : 0 ≤ z ∧ z < 18446744073709551616 := by
  have e1 : IntKind.u64.min = 0 := rfl
  have e2 : IntKind.u64.max = 18446744073709551615 := rfl
  simp [Lit.wf, e1, e2] at h
  omega
theorem walk (a9 : Int) (b9 : Int) (c9 : Int) (d9 : Int) (wa9 : (Lit.int .u64 a9).wf = true) (wb9 : (Lit.int .u64 b9).wf = true) (wc9 : (Lit.int .u64 c9).wf = true) (wd9 : (Lit.int .u64 d9).wf = true) (W : World) : Calls Try.prog 3 #[.agg #[.int .u64 a9, .int .u64 b9], .agg #[.int .u64 c9, .int .u64 d9]] W fun e W' => e = .returned (.bool true) ∧ Kp W W' := by
  have hz0 := bndU wa9
  have hz1 := bndU wb9
  have hz2 := bndU wc9
  have hz3 := bndU wd9
  obtain ⟨x0, rfl⟩ := Int.eq_ofNat_of_zero_le hz0.1
  obtain ⟨x1, rfl⟩ := Int.eq_ofNat_of_zero_le hz1.1
  obtain ⟨x2, rfl⟩ := Int.eq_ofNat_of_zero_le hz2.1
  obtain ⟨x3, rfl⟩ := Int.eq_ofNat_of_zero_le hz3.1
  exact pmags_ x0 x1 x2 x3 (by omega) (by omega) (by omega) (by omega) W
set_option maxRecDepth 100000 in
theorem lifted (os : Os) (started : os.Started) (H : Type) (enc : TypeId × Value → H) :
    ReturnsInHanded {} Try.checked os 3 .any (Rows.powerMagnitudesSpec.pre6 enc Try.prog Try.f3 Rows.powerMagnitudesRow.domain false) (Rows.powerMagnitudesSpec.post enc Try.prog Try.f3 false true false false) := by
  refine returnsInHanded_of_change (C := Try.checked) own started (by kernel_rfl) Try.func3
    (ChangeSpec.witness6 (enc := enc) (C := Try.checked) false ⟨#[], #[.agg #[.int .u64 0, .int .u64 0], .agg #[.int .u64 0, .int .u64 0]], []⟩ 8 (by kernel_rfl) (by kernel_rfl) (by kernel_rfl) (by kernel_rfl)) ?_
  intro W base args ds gs before hval0 hW hcnd _
  have hval : ∀ (j : Nat) t v, Try.f3.params[j]? = some t → args[j]? = some v → Value.okWide Try.prog W .any base t v := hval0
  have hW' := hW
  obtain ⟨p, q, hA0, hV, rfl, hfz, hnd⟩ := hW
  have hA : DataW.TrodAll enc Try.prog W 0 (fun _ => true) true Try.f3.params.toList args.toList ds p := hA0
  rw [Try.params3] at hA hval
  obtain ⟨v0, vs0, d0, ds0, p0, q0, hargs, rfl, rfl, h0, r0⟩ := trodAll_cons hA
  obtain ⟨v1, vs1, d1, ds1, p1, q1, rfl, rfl, rfl, h1, r1⟩ := trodAll_cons r0
  obtain ⟨rfl, rfl, rfl⟩ := trodAll_nil r1
  obtain rfl : args = #[v0, v1] := by cases args; simp_all
  obtain ⟨rfl, rfl⟩ := trodVars_none hV
  obtain ⟨c0, c1, y0, y1, m0, rfl, rfl, rfl, hy0, hy1⟩ := open_agg2 Try.underlying24 (by kernel_rfl) cellsTwo (hval 0 24 v0 rfl rfl) h0
  obtain ⟨a9, e0, rfl, wa9⟩ := DataW.trod_int Try.underlying22 hy0
  obtain ⟨b9, e1, rfl, wb9⟩ := DataW.trod_int Try.underlying22 hy1
  obtain ⟨c2, c3, y2, y3, m1, rfl, rfl, rfl, hy2, hy3⟩ := open_agg2 Try.underlying24 (by kernel_rfl) cellsTwo (hval 1 24 v1 rfl rfl) h1
  obtain ⟨c9, e2, rfl, wc9⟩ := DataW.trod_int Try.underlying22 hy2
  obtain ⟨d9, e3, rfl, wd9⟩ := DataW.trod_int Try.underlying22 hy3
  simp at e0 e1 e2 e3
  subst e0 e1 e2 e3
  clear hA0 hval0
  simp only [List.append_nil] at hW'
  have sr : ∀ (W' : World) (sp : Nat → Bool) (x y : Int), (Lit.int .u64 x).wf = true → (Lit.int .u64 y).wf = true → DataW.Trod enc Try.prog W' 0 sp true 24 (.agg #[.int .u64 x, .int .u64 y]) (.agg [.lit (.int .u64 x), .lit (.int .u64 y)]) [] := fun W' sp x y wa wb =>
    shut_agg2 (y0 := (.lit (.int .u64 x), [])) (y1 := (.lit (.int .u64 y), [])) Try.underlying24 (by kernel_rfl) cellsTwo ⟨1, by simp [DataW.trod, Try.underlying22, wa]⟩ ⟨1, by simp [DataW.trod, Try.underlying22, wb]⟩
  refine (walk a9 b9 c9 d9 wa9 wb9 wc9 wd9 W).mono fun e W' ⟨he, hg⟩ => ?_
  subst he
  refine ⟨_, rfl, _, _, _, [], _, [], hW', ?_, (trodAll_cons_mk (sr _ _ _ _ wa9 wb9) (trodAll_cons_mk (sr _ _ _ _ wc9 wd9) trodAll_mk0)), rfl, World.keptBut_mono (fun _ f => f.elim) (Below.frame hg (fun _ => False)), fun h => by cases h⟩
  exact trodAll_cons_mk (shut_bool Try.underlying4 _) trodAll_mk0

theorem over : Rows.powerMagnitudesRow.holds Try.pinned (OpenSpec.ofChange Rows.powerMagnitudesSpec) :=
  OpenClaim.holds_of_wide 3 Try.f3 rfl rfl rfl rfl rfl rfl rfl ⟨rfl, rfl, rfl, rfl, rfl⟩ rfl rfl rfl rfl rfl (by kernel_rfl) Try.func3 (by kernel_rfl)
    (of_decide_eq_true (by kernel_rfl)) (by unfold Func.isWrapper; first | (rw [if_pos (by decide +kernel)]; kernel_rfl) | (rw [if_neg (by decide +kernel)]; exact ⟨rfl, rfl⟩))
    (fun os started H enc _ => lifted os started H enc)

theorem proved : Rows.PowerMagnitudesSaid :=
  over
end Go.Proofs.Ytflhcnmbondpnaa.powerMagnitudes

namespace Go.Proofs.Ytflhcnmbondpnaa
theorem powerMagnitudes_holds : Rows.PowerMagnitudesSaid := powerMagnitudes.proved
end Go.Proofs.Ytflhcnmbondpnaa
