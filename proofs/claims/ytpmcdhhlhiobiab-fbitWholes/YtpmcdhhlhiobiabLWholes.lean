import Derived.Test.YtpmcdhhlhiobiabRows
import Derived.WalkKit
import Derived.ProofKit
import Derived.OpenShut
import Derived.Test.YtpmcdhhlhiobiabM
import Derived.Test.YtpmcdhhlhiobiabA
import Derived.Test.YtpmcdhhlhiobiabN
import Derived.Test.YtpmcdhhlhiobiabZd
import Derived.Test.YtpmcdhhlhiobiabZfar
import Derived.Test.YtpmcdhhlhiobiabZs
import Derived.Test.YtpmcdhhlhiobiabZnear
import Derived.Test.YtpmcdhhlhiobiabZRD
import Derived.Test.YtpmcdhhlhiobiabZRS
import Derived.Deep.QuietTactic
import Derived.BigQuiet
import Derived.RowKit3
namespace Go.Proofs.Ytpmcdhhlhiobiab.fbitWholes
open Go.ChangeShapes Go.WideShapes Go.ChangeAt Go.RowKit
set_option linter.unusedVariables false      -- a walk need not use every 'w<i>' (that an integer argument fits its kind)

theorem packD (n : Bool) (m : Nat) (hm : m < 9223372036854775808) : ∃ (p : Int) (o : Bool),
    (∀ w : World, Calls Try.prog 32 #[.float .f64 (wD n m)] w fun e w' => e = .returned (.tuple #[.int .i64 p, .bool o]) ∧ w' = w) ∧
    (∀ w : World, Calls Try.prog 33 #[.float .f64 (wD n m)] w fun e w' => e = .returned (.tuple #[.int .i64 p, .bool o]) ∧ w' = w) ∧
    (∀ w : World, Calls Try.prog 34 #[.bool true, .int .u64 ((wD n m : Nat) : Int)] w fun e w' => e = .returned (.tuple #[.int .i64 p, .bool o]) ∧ Grown w w') :=
  ⟨_, _, whole_d n m hm, whole_far n m hm, rwhole_D n m hm⟩

theorem packS (n : Bool) (m : Nat) (hm : m < 2147483648) : ∃ (p : Int) (o : Bool),
    (∀ w : World, Calls Try.prog 35 #[.float .f32 (wS n m)] w fun e w' => e = .returned (.tuple #[.int .i64 p, .bool o]) ∧ w' = w) ∧
    (∀ w : World, Calls Try.prog 36 #[.float .f32 (wS n m)] w fun e w' => e = .returned (.tuple #[.int .i64 p, .bool o]) ∧ w' = w) ∧
    (∀ w : World, Calls Try.prog 34 #[.bool false, .int .u64 ((wS n m : Nat) : Int)] w fun e w' => e = .returned (.tuple #[.int .i64 p, .bool o]) ∧ Grown w w') :=
  ⟨_, _, whole_s n m hm, whole_near n m hm, rwhole_S n m hm⟩

theorem own : ownKnob Try.prog.godebug = none := by kernel_rfl

/-! ### STEP 1: THE WALK: the Go text returns true. 'Grown w w'': the world has at most new blocks (Derived/RowKit3.lean). Part the cases AHEAD of 'go_enter' where a test parts the walk; take each callee by a contract of your own. -/
theorem walk (a0 : Int) (a1 : Int) (w0 : (Lit.int .u64 a0).wf = true) (w1 : (Lit.int .u32 a1).wf = true) (w : World) :
    Calls Try.prog 7 #[.int .u64 a0, .int .u32 a1] w fun e w' => e = .returned (.bool true) ∧ Grown w w' := by
  obtain ⟨x, rfl⟩ := Int.eq_ofNat_of_zero_le (a := a0) (by simp [Lit.wf, IntKind.min, IntKind.max, IntKind.bits, IntKind.signed] at w0; omega)
  obtain ⟨y, rfl⟩ := Int.eq_ofNat_of_zero_le (a := a1) (by simp [Lit.wf, IntKind.min, IntKind.max, IntKind.bits, IntKind.signed] at w1; omega)
  obtain ⟨n, m, hm, rfl⟩ := exD x (by simp [Lit.wf, IntKind.min, IntKind.max, IntKind.bits, IntKind.signed] at w0; omega)
  obtain ⟨n', m', hm', rfl⟩ := exS y (by simp [Lit.wf, IntKind.min, IntKind.max, IntKind.bits, IntKind.signed] at w1; omega)
  clear w0 w1
  obtain ⟨u1, v1, p1, p2, p3⟩ := packD n m hm
  obtain ⟨u2, v2, p5, p6, p7⟩ := packS n' m' hm'
  have hl := long_w (wD n m)
  have hs := brief_w (wS n' m')
  have hb : wS n' m' < 4294967296 := by unfold wS; split <;> omega
  obtain ⟨x, hx⟩ : ∃ x : Nat, x = wD n m := ⟨_, rfl⟩
  obtain ⟨y, hy⟩ : ∃ y : Nat, y = wS n' m' := ⟨_, rfl⟩
  rw [← hx] at p1 p2 p3 hl ⊢
  rw [← hy] at p5 p6 p7 hs hb ⊢
  have hc : IntKind.u64.wrap (y : Int) = (y : Int) := wrapU (by omega) (by omega)
  clear hx hy hm hm' hb
  go_enter Try.func7, Try.ntmps7
  go_wp2_with (first | (go_at_call 9; refine (hl _).mono ?_; rintro e w' ⟨rfl, rfl⟩) | (go_at_call 13; refine (hs _).mono ?_; rintro e w' ⟨rfl, rfl⟩) | (go_at_call 32; refine (p1 _).mono ?_; rintro e w' ⟨rfl, rfl⟩) | (go_at_call 33; refine (p2 _).mono ?_; rintro e w' ⟨rfl, rfl⟩) | (go_at_call 35; refine (p5 _).mono ?_; rintro e w' ⟨rfl, rfl⟩) | (go_at_call 36; refine (p6 _).mono ?_; rintro e w' ⟨rfl, rfl⟩) | (go_at_call_of 34 (Value.bool true); refine (p3 _).mono ?_; rintro e w' ⟨rfl, g1⟩) | (go_at_call_of 34 (Value.bool false); refine (p7 _).mono ?_; rintro e w' ⟨rfl, g1⟩))
  exact bodyPost_ret (v := .bool true) (by simp [results, Try.results7, go_sem] <;> simp only [*]) rfl ⟨rfl, (by repeat (with_reducible (first | assumption | exact Grown.refl _ | apply Grown.drew | apply Grown.alloc | apply gdrewN | (refine gtrans ?_ (by assumption)))))⟩

/-! ### THE ROW's STEP: WRITTEN OUT: LEAVE IT -/
set_option maxRecDepth 100000 in
theorem lifted (os : Os) (started : os.Started) (H : Type) (enc : TypeId × Value → H) :
    ReturnsInHanded {} Try.checked os 7 .any (Rows.fbitWholesSpec.pre6 enc Try.prog Try.f7 Rows.fbitWholesRow.domain false) (Rows.fbitWholesSpec.post enc Try.prog Try.f7 false true false false) := by
  refine returnsInHanded_of_change (C := Try.checked) own started (by kernel_rfl) Try.func7
    (ChangeSpec.witness6 (enc := enc) (C := Try.checked) false ⟨#[], #[.int .u64 0, .int .u32 0], []⟩ 8 (by kernel_rfl) (by kernel_rfl) (by kernel_rfl) (by kernel_rfl)) ?_
  intro W base args ds gs before hval0 hW hcnd _
  have hval : ∀ (j : Nat) t v, Try.f7.params[j]? = some t → args[j]? = some v → Value.okWide Try.prog W .any base t v := hval0
  have hW' := hW
  obtain ⟨p, q, hA0, hV, rfl, hfz, hnd⟩ := hW
  have hA : DataW.TrodAll enc Try.prog W 0 (fun _ => true) true Try.f7.params.toList args.toList ds p := hA0
  rw [Try.params7] at hA hval
  obtain ⟨v0, vs0, d0, ds0, p0, q0, hargs, rfl, rfl, h0, r0⟩ := trodAll_cons hA
  obtain ⟨v1, vs1, d1, ds1, p1, q1, rfl, rfl, rfl, h1, r1⟩ := trodAll_cons r0
  obtain ⟨rfl, rfl, rfl⟩ := trodAll_nil r1
  obtain rfl : args = #[v0, v1] := by cases args; simp_all
  obtain ⟨rfl, rfl⟩ := trodVars_none hV
  obtain ⟨a0, rfl, rfl, rfl, w0⟩ := open_int Try.underlying22 (hval 0 22 v0 rfl rfl) h0
  obtain ⟨a1, rfl, rfl, rfl, w1⟩ := open_int Try.underlying23 (hval 1 23 v1 rfl rfl) h1
  clear hA0 hval0
  simp only [List.append_nil] at hW'
  refine (walk a0 a1 w0 w1 W).mono fun e W' ⟨he, hg⟩ => ?_
  subst he
  exact ⟨_, rfl, post_of_same (pa := []) (pv := []) hW' (fun _ _ _ => (trodAll_cons_mk (shut_bool Try.underlying4 _) trodAll_mk0)) (fun sp _ => (trodAll_cons_mk (shut_int Try.underlying22 w0) (trodAll_cons_mk (shut_int Try.underlying23 w1) trodAll_mk0))) (fun _ _ => rfl) rfl
    (hg.frame _) hg.2.1 (ok_one (by kernel_rfl) rfl (okWide_bool_mk Try.underlying4 _))⟩

theorem over : Rows.fbitWholesRow.holds Try.pinned (OpenSpec.ofChange Rows.fbitWholesSpec) :=
  OpenClaim.holds_of_wide 7 Try.f7 rfl rfl rfl rfl rfl rfl rfl ⟨rfl, rfl, rfl, rfl, rfl⟩ rfl rfl rfl rfl rfl (by kernel_rfl) Try.func7 (by kernel_rfl)
    (of_decide_eq_true (by kernel_rfl)) (by unfold Func.isWrapper; first | (rw [if_pos (by decide +kernel)]; kernel_rfl) | (rw [if_neg (by decide +kernel)]; exact ⟨rfl, rfl⟩))
    (fun os started H enc _ => lifted os started H enc)

/-- ████ THE STATEMENT ████ -/
theorem proved : Rows.FbitWholesSaid :=
  over
end Go.Proofs.Ytpmcdhhlhiobiab.fbitWholes

namespace Go.Proofs.Ytpmcdhhlhiobiab
theorem fbitWholes_holds : Rows.FbitWholesSaid := fbitWholes.proved
end Go.Proofs.Ytpmcdhhlhiobiab
