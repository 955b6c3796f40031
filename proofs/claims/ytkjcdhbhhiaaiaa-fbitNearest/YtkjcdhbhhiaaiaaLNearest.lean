import Derived.Test.YtkjcdhbhhiaaiaaRows
import Derived.WalkKit
import Derived.ProofKit
import Derived.OpenShut
import Derived.Test.YtkjcdhbhhiaaiaaM
import Derived.Test.YtkjcdhbhhiaaiaaM5
import Derived.Test.YtkjcdhbhhiaaiaaM8
import Derived.Test.YtkjcdhbhhiaaiaaM9
import Derived.Test.YtkjcdhbhhiaaiaaA
import Derived.Test.YtkjcdhbhhiaaiaaP
import Derived.Test.YtkjcdhbhhiaaiaaOd
import Derived.Test.YtkjcdhbhhiaaiaaId
import Derived.Test.YtkjcdhbhhiaaiaaIfar
import Derived.Test.YtkjcdhbhhiaaiaaIs
import Derived.Test.YtkjcdhbhhiaaiaaInear
import Derived.Deep.QuietTactic
import Derived.BigQuiet
import Derived.RowKit3
namespace Go.Proofs.Ytkjcdhbhhiaaiaa.fbitNearest
open Go.ChangeShapes Go.WideShapes Go.ChangeAt Go.RowKit
set_option linter.unusedVariables false      -- a walk need not use every 'w<i>' (that an integer argument fits its kind)

open Ieee
theorem zr3 : zr double 3 = 4613937818241073152 := by decide +kernel
theorem of3 (w : World) : Calls Try.prog 11 #[.int .i64 3] w fun e w' => e = .returned (.tuple #[.float .f64 4613937818241073152, .bool true]) ∧ w' = w := by
  have h := of_d 3 (by omega) (by omega) w
  have e1 : wD (decide ((3 : Int) < 0)) (zr double 3) = 4613937818241073152 := by rw [zr3]; decide
  have e2 : exqD 3 = true := by decide +kernel
  rw [e1, e2] at h
  exact h
theorem eq3 : (FloatKind.f64.format.order 4613937818241073152 4613937818241073152 != some .eq) = false := by
  have e : FloatKind.f64.format.order (wD false 4613937818241073152) (wD false 4613937818241073152) = some (compare (plz false 4613937818241073152) (plz false 4613937818241073152)) := ordD false false _ _ (by omega) (by omega)
  have e2 : wD false 4613937818241073152 = 4613937818241073152 := by decide
  rw [e2] at e
  rw [e, cmp_eq rfl]; rfl

theorem own : ownKnob Try.prog.godebug = none := by kernel_rfl

/-! ### STEP 1: THE WALK: the Go text returns true. 'Grown w w'': the world has at most new blocks (Derived/RowKit3.lean). Part the cases AHEAD of 'go_enter' where a test parts the walk; take each callee by a contract of your own. -/
theorem walk (a0 : Int) (a1 : Int) (w0 : (Lit.int .i64 a0).wf = true) (w1 : (Lit.int .i64 a1).wf = true) (w : World) :
    Calls Try.prog 5 #[.int .i64 a0, .int .i64 a1] w fun e w' => e = .returned (.bool true) ∧ Grown w w' := by
  have hz : -9223372036854775808 ≤ a0 ∧ a0 < 9223372036854775808 := by
    simp [Lit.wf, IntKind.min, IntKind.max, IntKind.bits, IntKind.signed] at w0; omega
  have hy : -9223372036854775808 ≤ a1 ∧ a1 < 9223372036854775808 := by
    simp [Lit.wf, IntKind.min, IntKind.max, IntKind.bits, IntKind.signed] at w1; omega
  have p1 := nearest_d a0 a1 hz.1 hz.2 hy.1 hy.2
  have p2 := nearest_far a0 a1 hz.1 hz.2 hy.1 hy.2
  have p3 := nearest_s a0 a1 hz.1 hz.2 hy.1 hy.2
  have p4 := nearest_near a0 a1 hz.1 hz.2 hy.1 hy.2
  have o3 := of3
  have q3 := eq3
  obtain ⟨T, hT⟩ : ∃ T : Nat, T = 4613937818241073152 := ⟨_, rfl⟩
  clear w0 w1 hz hy
  go_enter Try.func5, Try.ntmps5
  go_wp2_with (first | (go_at_call 11; refine (o3 _).mono ?_; rintro e w' ⟨rfl, rfl⟩) | (go_at_call 18; refine (p1 _).mono ?_; rintro e w' ⟨rfl, g1⟩) | (go_at_call 20; refine (p2 _).mono ?_; rintro e w' ⟨rfl, g1⟩) | (go_at_call 19; refine (p3 _).mono ?_; rintro e w' ⟨rfl, g1⟩) | (go_at_call 21; refine (p4 _).mono ?_; rintro e w' ⟨rfl, g1⟩))
  exact bodyPost_ret (v := .bool true) (by simp [results, Try.results5, go_sem] <;> simp only [*]) rfl ⟨rfl, (by repeat (with_reducible (first | assumption | exact Grown.refl _ | apply Grown.drew | apply Grown.alloc | apply gdrewN | (refine gtrans ?_ (by assumption)))))⟩

/-! ### THE ROW's STEP: WRITTEN OUT: LEAVE IT -/
set_option maxRecDepth 100000 in
theorem lifted (os : Os) (started : os.Started) (H : Type) (enc : TypeId × Value → H) :
    ReturnsInHanded {} Try.checked os 5 .any (Rows.fbitNearestSpec.pre6 enc Try.prog Try.f5 Rows.fbitNearestRow.domain false) (Rows.fbitNearestSpec.post enc Try.prog Try.f5 false true false false) := by
  refine returnsInHanded_of_change (C := Try.checked) own started (by kernel_rfl) Try.func5
    (ChangeSpec.witness6 (enc := enc) (C := Try.checked) false ⟨#[], #[.int .i64 0, .int .i64 0], []⟩ 8 (by kernel_rfl) (by kernel_rfl) (by kernel_rfl) (by kernel_rfl)) ?_
  intro W base args ds gs before hval0 hW hcnd _
  have hval : ∀ (j : Nat) t v, Try.f5.params[j]? = some t → args[j]? = some v → Value.okWide Try.prog W .any base t v := hval0
  have hW' := hW
  obtain ⟨p, q, hA0, hV, rfl, hfz, hnd⟩ := hW
  have hA : DataW.TrodAll enc Try.prog W 0 (fun _ => true) true Try.f5.params.toList args.toList ds p := hA0
  rw [Try.params5] at hA hval
  obtain ⟨v0, vs0, d0, ds0, p0, q0, hargs, rfl, rfl, h0, r0⟩ := trodAll_cons hA
  obtain ⟨v1, vs1, d1, ds1, p1, q1, rfl, rfl, rfl, h1, r1⟩ := trodAll_cons r0
  obtain ⟨rfl, rfl, rfl⟩ := trodAll_nil r1
  obtain rfl : args = #[v0, v1] := by cases args; simp_all
  obtain ⟨rfl, rfl⟩ := trodVars_none hV
  obtain ⟨a0, rfl, rfl, rfl, w0⟩ := open_int Try.underlying2 (hval 0 2 v0 rfl rfl) h0
  obtain ⟨a1, rfl, rfl, rfl, w1⟩ := open_int Try.underlying2 (hval 1 2 v1 rfl rfl) h1
  clear hA0 hval0
  simp only [List.append_nil] at hW'
  refine (walk a0 a1 w0 w1 W).mono fun e W' ⟨he, hg⟩ => ?_
  subst he
  exact ⟨_, rfl, post_of_same (pa := []) (pv := []) hW' (fun _ _ _ => (trodAll_cons_mk (shut_bool Try.underlying4 _) trodAll_mk0)) (fun sp _ => (trodAll_cons_mk (shut_int Try.underlying2 w0) (trodAll_cons_mk (shut_int Try.underlying2 w1) trodAll_mk0))) (fun _ _ => rfl) rfl
    (hg.frame _) hg.2.1 (ok_one (by kernel_rfl) rfl (okWide_bool_mk Try.underlying4 _))⟩

theorem over : Rows.fbitNearestRow.holds Try.pinned (OpenSpec.ofChange Rows.fbitNearestSpec) :=
  OpenClaim.holds_of_wide 5 Try.f5 rfl rfl rfl rfl rfl rfl rfl ⟨rfl, rfl, rfl, rfl, rfl⟩ rfl rfl rfl rfl rfl (by kernel_rfl) Try.func5 (by kernel_rfl)
    (of_decide_eq_true (by kernel_rfl)) (by unfold Func.isWrapper; first | (rw [if_pos (by decide +kernel)]; kernel_rfl) | (rw [if_neg (by decide +kernel)]; exact ⟨rfl, rfl⟩))
    (fun os started H enc _ => lifted os started H enc)

/-- ████ THE STATEMENT ████ -/
theorem proved : Rows.FbitNearestSaid :=
  over
end Go.Proofs.Ytkjcdhbhhiaaiaa.fbitNearest

namespace Go.Proofs.Ytkjcdhbhhiaaiaa
theorem fbitNearest_holds : Rows.FbitNearestSaid := fbitNearest.proved
end Go.Proofs.Ytkjcdhbhhiaaiaa
