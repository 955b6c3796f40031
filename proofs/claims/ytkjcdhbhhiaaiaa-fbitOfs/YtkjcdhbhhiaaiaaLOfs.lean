import Derived.Test.YtkjcdhbhhiaaiaaRows
import Derived.WalkKit
import Derived.ProofKit
import Derived.OpenShut
import Derived.Test.YtkjcdhbhhiaaiaaM
import Derived.Test.YtkjcdhbhhiaaiaaM5
import Derived.Test.YtkjcdhbhhiaaiaaM8
import Derived.Test.YtkjcdhbhhiaaiaaA
import Derived.Test.YtkjcdhbhhiaaiaaSD
import Derived.Test.YtkjcdhbhhiaaiaaSS
import Derived.Test.YtkjcdhbhhiaaiaaOd
import Derived.Test.YtkjcdhbhhiaaiaaOfar
import Derived.Test.YtkjcdhbhhiaaiaaOs
import Derived.Test.YtkjcdhbhhiaaiaaOnear
import Derived.Test.YtkjcdhbhhiaaiaaJID
import Derived.Test.YtkjcdhbhhiaaiaaJIS
import Derived.Deep.QuietTactic
import Derived.BigQuiet
import Derived.RowKit3
namespace Go.Proofs.Ytkjcdhbhhiaaiaa.fbitOfs
open Go.ChangeShapes Go.WideShapes Go.ChangeAt Go.RowKit
set_option linter.unusedVariables false      -- a walk need not use every 'w<i>' (that an integer argument fits its kind)

open Ieee
theorem packD (z : Int) (h1 : -9223372036854775808 ≤ z) (h2 : z < 9223372036854775808) : ∃ (u : Nat) (o : Bool),
    (∀ w : World, Calls Try.prog 11 #[.int .i64 z] w fun e w' => e = .returned (.tuple #[.float .f64 u, .bool o]) ∧ w' = w) ∧
    (∀ w : World, Calls Try.prog 12 #[.int .i64 z] w fun e w' => e = .returned (.tuple #[.float .f64 u, .bool o]) ∧ w' = w) ∧
    (∀ w : World, Calls Try.prog 13 #[.bool true, .int .i64 z] w fun e w' => e = .returned (.tuple #[.int .u64 (u : Int), .bool o]) ∧ Grown w w') ∧
    (∀ w : World, Calls Try.prog 14 #[.float .f64 u, .int .u64 (u : Int)] w fun e w' => e = .returned (.bool true) ∧ Grown w w') :=
  ⟨_, _, of_d z h1 h2, of_far z h1 h2, rfrom_D z h1 h2, ise_D _ _ (by have := zrD_lt z h1 h2; omega)⟩

theorem packS (z : Int) (h1 : -9223372036854775808 ≤ z) (h2 : z < 9223372036854775808) : ∃ (u : Nat) (o : Bool),
    (∀ w : World, Calls Try.prog 15 #[.int .i64 z] w fun e w' => e = .returned (.tuple #[.float .f32 u, .bool o]) ∧ w' = w) ∧
    (∀ w : World, Calls Try.prog 16 #[.int .i64 z] w fun e w' => e = .returned (.tuple #[.float .f32 u, .bool o]) ∧ w' = w) ∧
    (∀ w : World, Calls Try.prog 13 #[.bool false, .int .i64 z] w fun e w' => e = .returned (.tuple #[.int .u64 (u : Int), .bool o]) ∧ Grown w w') ∧
    (∀ w : World, Calls Try.prog 17 #[.float .f32 u, .int .u64 (u : Int)] w fun e w' => e = .returned (.bool true) ∧ Grown w w') :=
  ⟨_, _, of_s z h1 h2, of_near z h1 h2, rfrom_S z h1 h2, ise_S _ _ (by have := zrS_lt z h1 h2; omega)⟩

theorem own : ownKnob Try.prog.godebug = none := by kernel_rfl

/-! ### STEP 1: THE WALK: the Go text returns true. 'Grown w w'': the world has at most new blocks (Derived/RowKit3.lean). Part the cases AHEAD of 'go_enter' where a test parts the walk; take each callee by a contract of your own. -/
theorem walk (a0 : Int) (w0 : (Lit.int .i64 a0).wf = true) (w : World) :
    Calls Try.prog 4 #[.int .i64 a0] w fun e w' => e = .returned (.bool true) ∧ Grown w w' := by
  have hz : -9223372036854775808 ≤ a0 ∧ a0 < 9223372036854775808 := by
    simp [Lit.wf, IntKind.min, IntKind.max, IntKind.bits, IntKind.signed] at w0; omega
  obtain ⟨u1, o1, p1, p2, p3, p4⟩ := packD a0 hz.1 hz.2
  obtain ⟨u2, o2, p5, p6, p7, p8⟩ := packS a0 hz.1 hz.2
  clear w0 hz
  go_enter Try.func4, Try.ntmps4
  go_wp2_with (first | (go_at_call 11; refine (p1 _).mono ?_; rintro e w' ⟨rfl, rfl⟩) | (go_at_call 12; refine (p2 _).mono ?_; rintro e w' ⟨rfl, rfl⟩) | (go_at_call 15; refine (p5 _).mono ?_; rintro e w' ⟨rfl, rfl⟩) | (go_at_call 16; refine (p6 _).mono ?_; rintro e w' ⟨rfl, rfl⟩) | (go_at_call_of 13 (Value.bool true); refine (p3 _).mono ?_; rintro e w' ⟨rfl, g1⟩) | (go_at_call_of 13 (Value.bool false); refine (p7 _).mono ?_; rintro e w' ⟨rfl, g1⟩) | (go_at_call 14; refine (p4 _).mono ?_; rintro e w' ⟨rfl, g1⟩) | (go_at_call 17; refine (p8 _).mono ?_; rintro e w' ⟨rfl, g1⟩))
  exact bodyPost_ret (v := .bool true) (by simp [results, Try.results4, go_sem] <;> simp only [*]) rfl ⟨rfl, (by repeat (with_reducible (first | assumption | exact Grown.refl _ | apply Grown.drew | apply Grown.alloc | apply gdrewN | (refine gtrans ?_ (by assumption)))))⟩

/-! ### THE ROW's STEP: WRITTEN OUT: LEAVE IT -/
set_option maxRecDepth 100000 in
theorem lifted (os : Os) (started : os.Started) (H : Type) (enc : TypeId × Value → H) :
    ReturnsInHanded {} Try.checked os 4 .any (Rows.fbitOfsSpec.pre6 enc Try.prog Try.f4 Rows.fbitOfsRow.domain false) (Rows.fbitOfsSpec.post enc Try.prog Try.f4 false true false false) := by
  refine returnsInHanded_of_change (C := Try.checked) own started (by kernel_rfl) Try.func4
    (ChangeSpec.witness6 (enc := enc) (C := Try.checked) false ⟨#[], #[.int .i64 0], []⟩ 8 (by kernel_rfl) (by kernel_rfl) (by kernel_rfl) (by kernel_rfl)) ?_
  intro W base args ds gs before hval0 hW hcnd _
  have hval : ∀ (j : Nat) t v, Try.f4.params[j]? = some t → args[j]? = some v → Value.okWide Try.prog W .any base t v := hval0
  have hW' := hW
  obtain ⟨p, q, hA0, hV, rfl, hfz, hnd⟩ := hW
  have hA : DataW.TrodAll enc Try.prog W 0 (fun _ => true) true Try.f4.params.toList args.toList ds p := hA0
  rw [Try.params4] at hA hval
  obtain ⟨v0, vs0, d0, ds0, p0, q0, hargs, rfl, rfl, h0, r0⟩ := trodAll_cons hA
  obtain ⟨rfl, rfl, rfl⟩ := trodAll_nil r0
  obtain rfl : args = #[v0] := by cases args; simp_all
  obtain ⟨rfl, rfl⟩ := trodVars_none hV
  obtain ⟨a0, rfl, rfl, rfl, w0⟩ := open_int Try.underlying2 (hval 0 2 v0 rfl rfl) h0
  clear hA0 hval0
  simp only [List.append_nil] at hW'
  refine (walk a0 w0 W).mono fun e W' ⟨he, hg⟩ => ?_
  subst he
  exact ⟨_, rfl, post_of_same (pa := []) (pv := []) hW' (fun _ _ _ => (trodAll_cons_mk (shut_bool Try.underlying4 _) trodAll_mk0)) (fun sp _ => (trodAll_cons_mk (shut_int Try.underlying2 w0) trodAll_mk0)) (fun _ _ => rfl) rfl
    (hg.frame _) hg.2.1 (ok_one (by kernel_rfl) rfl (okWide_bool_mk Try.underlying4 _))⟩

theorem over : Rows.fbitOfsRow.holds Try.pinned (OpenSpec.ofChange Rows.fbitOfsSpec) :=
  OpenClaim.holds_of_wide 4 Try.f4 rfl rfl rfl rfl rfl rfl rfl ⟨rfl, rfl, rfl, rfl, rfl⟩ rfl rfl rfl rfl rfl (by kernel_rfl) Try.func4 (by kernel_rfl)
    (of_decide_eq_true (by kernel_rfl)) (by unfold Func.isWrapper; first | (rw [if_pos (by decide +kernel)]; kernel_rfl) | (rw [if_neg (by decide +kernel)]; exact ⟨rfl, rfl⟩))
    (fun os started H enc _ => lifted os started H enc)

/-- ████ THE STATEMENT ████ -/
theorem proved : Rows.FbitOfsSaid :=
  over
end Go.Proofs.Ytkjcdhbhhiaaiaa.fbitOfs

namespace Go.Proofs.Ytkjcdhbhhiaaiaa
theorem fbitOfs_holds : Rows.FbitOfsSaid := fbitOfs.proved
end Go.Proofs.Ytkjcdhbhhiaaiaa
