import Derived.Test.YtbdeppdjelcioaaDoorRows
import Derived.WalkKit
import Derived.ProofKit
import Derived.OpenShut
import Derived.Test.YtbdeppdjelcioaaDoorTie
import Derived.Test.YtbdeppdjelcioaaDoorCards
import Derived.Test.YtbdeppdjelcioaaDoorM
import Derived.Test.YtbdeppdjelcioaaDoorM5
import Derived.Test.YtbdeppdjelcioaaDoorA
import Derived.Test.YtbdeppdjelcioaaDoorN
import Derived.Test.YtbdeppdjelcioaaDoorBT
import Derived.Test.YtbdeppdjelcioaaDoorMJ
import Derived.Test.YtbdeppdjelcioaaDoorDT
import Derived.Test.YtbdeppdjelcioaaDoorJd
import Derived.Test.YtbdeppdjelcioaaDoorKd
import Derived.Test.YtbdeppdjelcioaaDoorKfar
import Derived.Test.YtbdeppdjelcioaaDoorKs
import Derived.Test.YtbdeppdjelcioaaDoorKnear
import Derived.Deep.QuietTactic
import Derived.BigQuiet
import Derived.RowKit3
import Derived.LaidMore
import Derived.Stop.Joined
import Derived.SevenTiedAt
import Derived.MakeChecks
import Derived.Lib.LaidTab
namespace Go.Proofs.YtbdeppdjelcioaaDoor.fbitBack
open Go.ChangeShapes Go.WideShapes Go.ChangeAt Go.RowKit
set_option linter.unusedVariables false      -- a walk need not use every 'w<i>' (that an integer argument fits its kind)

theorem j3 (w : World) (hT : Tab w) : Calls Tryd.prog 19 #[.bool false, .int .u64 3, .int .i64 (-1)] w fun e w' => e = .returned (.tuple #[.float .f64 4609434218613702656, .int .i64 0]) ∧ Grown w w' := by
  have h := join_d false 3 0 (by decide) (by decide) (-1) (by omega) (by omega) (by decide) w hT
  have e1 : jrD 3 (-1 + ((0 : Nat) : Int)) = 4609434218613702656 := by decide +kernel
  rw [e1] at h
  exact h
theorem e3 : (FloatKind.f64.format.order 4609434218613702656 4609434218613702656 != some .eq) = false := by
  have e : FloatKind.f64.format.order (wD false 4609434218613702656) (wD false 4609434218613702656) = some (compare (plz false 4609434218613702656) (plz false 4609434218613702656)) := ordD false false _ _ (by omega) (by omega)
  have e2 : wD false 4609434218613702656 = 4609434218613702656 := by decide
  rw [e2] at e
  rw [e, cmp_eq rfl]; rfl

theorem own : ownKnob Tryd.prog.godebug = none := by kernel_rfl

/-! ### STEP 1: THE WALK: the Go text returns true. 'Grown w w'': the world has at most new blocks (Derived/RowKit3.lean). Part the cases AHEAD of 'go_enter' where a test parts the walk; take each callee by a contract of your own. -/
theorem walk (a0 : Int) (a1 : Int) (w0 : (Lit.int .u64 a0).wf = true) (w1 : (Lit.int .u32 a1).wf = true) (w : World) (hT : Tab w) :
    Calls Tryd.prog 5 #[.int .u64 a0, .int .u32 a1] w fun e w' => e = .returned (.bool true) ∧ Grown w w' := by
  obtain ⟨x, rfl⟩ := Int.eq_ofNat_of_zero_le (a := a0) (by simp [Lit.wf, IntKind.min, IntKind.max, IntKind.bits, IntKind.signed] at w0; omega)
  obtain ⟨y, rfl⟩ := Int.eq_ofNat_of_zero_le (a := a1) (by simp [Lit.wf, IntKind.min, IntKind.max, IntKind.bits, IntKind.signed] at w1; omega)
  obtain ⟨n, m, hm, rfl⟩ := exD x (by simp [Lit.wf, IntKind.min, IntKind.max, IntKind.bits, IntKind.signed] at w0; omega)
  obtain ⟨n', m', hm', rfl⟩ := exS y (by simp [Lit.wf, IntKind.min, IntKind.max, IntKind.bits, IntKind.signed] at w1; omega)
  clear w0 w1
  have p_d : ∀ w', Grown w w' → Calls Tryd.prog 28 #[.float .f64 (wD n m)] w' fun e w'' => e = .returned (.bool true) ∧ Grown w' w'' := fun w' g => back_d n m hm w' (hT.grown g)
  have p_far : ∀ w', Grown w w' → Calls Tryd.prog 32 #[.float .f64 (wD n m)] w' fun e w'' => e = .returned (.bool true) ∧ Grown w' w'' := fun w' g => back_far n m hm w' (hT.grown g)
  have p_s : ∀ w', Grown w w' → Calls Tryd.prog 30 #[.float .f32 (wS n' m')] w' fun e w'' => e = .returned (.bool true) ∧ Grown w' w'' := fun w' g => back_s n' m' hm' w' (hT.grown g)
  have p_near : ∀ w', Grown w w' → Calls Tryd.prog 33 #[.float .f32 (wS n' m')] w' fun e w'' => e = .returned (.bool true) ∧ Grown w' w'' := fun w' g => back_near n' m' hm' w' (hT.grown g)
  have h3 := j3 w hT
  have q3 := e3
  have hl := long_w (wD n m)
  have hs := brief_w (wS n' m')
  obtain ⟨x, hx⟩ : ∃ x : Nat, x = wD n m := ⟨_, rfl⟩
  obtain ⟨y, hy⟩ : ∃ y : Nat, y = wS n' m' := ⟨_, rfl⟩
  rw [← hx] at p_d p_far hl ⊢
  rw [← hy] at p_s p_near hs ⊢
  clear hx hy hm hm' hT
  go_enter Tryd.func5, Tryd.ntmps5
  go_wp2_with (first | (go_at_call 19; refine (h3).mono ?_; rintro e w' ⟨rfl, g0⟩) | (go_at_call 29; refine (hl _).mono ?_; rintro e w' ⟨rfl, rfl⟩) | (go_at_call 31; refine (hs _).mono ?_; rintro e w' ⟨rfl, rfl⟩) | (go_at_call 28; refine (p_d _ ?_).mono ?_; (exact (by repeat (with_reducible (first | assumption | exact Grown.refl _ | apply Grown.drew | apply Grown.alloc | apply gdrewN | (refine gtrans ?_ (by assumption)))))); rintro e w' ⟨rfl, g1⟩) | (go_at_call 32; refine (p_far _ ?_).mono ?_; (exact (by repeat (with_reducible (first | assumption | exact Grown.refl _ | apply Grown.drew | apply Grown.alloc | apply gdrewN | (refine gtrans ?_ (by assumption)))))); rintro e w' ⟨rfl, g1⟩) | (go_at_call 30; refine (p_s _ ?_).mono ?_; (exact (by repeat (with_reducible (first | assumption | exact Grown.refl _ | apply Grown.drew | apply Grown.alloc | apply gdrewN | (refine gtrans ?_ (by assumption)))))); rintro e w' ⟨rfl, g1⟩) | (go_at_call 33; refine (p_near _ ?_).mono ?_; (exact (by repeat (with_reducible (first | assumption | exact Grown.refl _ | apply Grown.drew | apply Grown.alloc | apply gdrewN | (refine gtrans ?_ (by assumption)))))); rintro e w' ⟨rfl, g1⟩))
  exact bodyPost_ret (v := .bool true) (by simp [results, Tryd.results5, go_sem] <;> simp only [*]) rfl ⟨rfl, (by repeat (with_reducible (first | assumption | exact Grown.refl _ | apply Grown.drew | apply Grown.alloc | apply gdrewN | (refine gtrans ?_ (by assumption)))))⟩

/-! ### THE ROW's STEP: WRITTEN OUT: LEAVE IT -/
set_option maxRecDepth 100000 in
theorem lifted (os : Os) (started : os.Started) (H : Type) (enc : TypeId × Value → H) :
    ReturnsInHanded {} Tryd.checked os 5 .any (fun w args => (Rows.fbitBackSpec.pre enc Tryd.prog Tryd.f5 [] false w args ∧ laidMetH Tryd.prog [("math/bits.deBruijn64tab", Rows.laid_math_bits_deBruijn64tab)] w) ∧ sizedMet enc Tryd.prog Tryd.f5 (OpenSpec.ofChange Rows.fbitBackSpec) false w args)
      (Rows.fbitBackSpec.post enc Tryd.prog Tryd.f5 false true false false) := by
  refine returnsInHanded_of_change_and (C := Tryd.checked) (X := fun w _ => laidMetH Tryd.prog [("math/bits.deBruijn64tab", Rows.laid_math_bits_deBruijn64tab)] w) (fun _ _ _ hh h => h.of_heap hh) own started (by kernel_rfl) Tryd.func5
    (ChangeSpec.witness_shaped (enc := enc) (C := Tryd.checked) (os := os) (X := fun w _ => laidMetH Tryd.prog [("math/bits.deBruijn64tab", Rows.laid_math_bits_deBruijn64tab)] w) false (World.doorLaid Tryd.prog 14 os) #[.int .u64 0, .int .u32 0] 8 rfl (World.shaped_of_RefB (by kernel_rfl) (by kernel_rfl)) (by kernel_rfl) (by kernel_rfl) (by kernel_rfl) (door_met os _)) ?_
  intro W base args ds gs before hval0 hW _ _ hL _
  have hval : ∀ (j : Nat) t v, Tryd.f5.params[j]? = some t → args[j]? = some v → Value.okWide Tryd.prog W .any base t v := hval0
  have hW' := hW
  obtain ⟨p, q, hA0, hV, rfl, hfz, hnd⟩ := hW
  have hA : DataW.TrodAll enc Tryd.prog W 0 (fun _ => true) true Tryd.f5.params.toList args.toList ds p := hA0
  rw [Tryd.params5] at hA hval
  obtain ⟨v0, vs0, d0, ds0, p0, q0, hargs, rfl, rfl, h0, r0⟩ := trodAll_cons hA
  obtain ⟨v1, vs1, d1, ds1, p1, q1, rfl, rfl, rfl, h1, r1⟩ := trodAll_cons r0
  obtain ⟨rfl, rfl, rfl⟩ := trodAll_nil r1
  obtain rfl : args = #[v0, v1] := by cases args; simp_all
  obtain ⟨rfl, rfl⟩ := trodVars_none hV
  obtain ⟨a0, rfl, rfl, rfl, w0⟩ := open_int Tryd.underlying30 (hval 0 30 v0 rfl rfl) h0
  obtain ⟨a1, rfl, rfl, rfl, w1⟩ := open_int Tryd.underlying57 (hval 1 57 v1 rfl rfl) h1
  clear hA0 hval0
  simp only [List.append_nil] at hW'
  refine (walk a0 a1 w0 w1 W (tab_of_laid hL)).mono fun e W' ⟨he, hg⟩ => ?_
  subst he
  exact ⟨_, rfl, post_of_same (pa := []) (pv := []) hW' (fun _ _ _ => (trodAll_cons_mk (shut_bool Tryd.underlying4 _) trodAll_mk0)) (fun sp _ => (trodAll_cons_mk (shut_int Tryd.underlying30 w0) (trodAll_cons_mk (shut_int Tryd.underlying57 w1) trodAll_mk0))) (fun _ _ => rfl) rfl
    (hg.frame _) hg.2.1 (ok_one (by kernel_rfl) rfl (okWide_bool_mk Tryd.underlying4 _))⟩

theorem over : Rows.fbitBackRow.holds Tryd.pinned (OpenSpec.ofChange Rows.fbitBackSpec) :=
  OpenClaim.holds_of_wide 5 Tryd.f5 rfl rfl rfl rfl rfl rfl rfl ⟨rfl, rfl, rfl, rfl, rfl⟩ rfl rfl rfl rfl rfl (by kernel_rfl) Tryd.func5 (by kernel_rfl)
    (of_decide_eq_true (by kernel_rfl)) (by unfold Func.isWrapper; first | (rw [if_pos (by decide +kernel)]; kernel_rfl) | (rw [if_neg (by decide +kernel)]; exact ⟨rfl, rfl⟩))
    (fun os started H enc _ => lifted os started H enc)

/-- ████ THE STATEMENT ████ -/
theorem proved : Rows.FbitBackSaid :=
  over
end Go.Proofs.YtbdeppdjelcioaaDoor.fbitBack

namespace Go.Proofs.YtbdeppdjelcioaaDoor
open Go
theorem fbitBack_holds : Rows.FbitBackCardSaid :=
  Claim7.holds_tied_plain_at .later [] [.data] true (true, "61c395b8997f2029f0eec3313754324c5fd1ff456170c699e3ee3f1d5692dcff") false
    fbitBack.proved (fun _ h => by cases h) (by kernel_rfl) (fun _ h => by cases h) fbitBack_row_tie rfl ⟨rfl, rfl⟩ (by kernel_rfl) rfl
    (fun f fn hf hfn => by
      obtain rfl : f = 5 := Option.some.inj ((show Tryd.prog.funcNamed "verge/vergelaw1.FbitBack" = some 5 by kernel_rfl).symm.trans hf) |>.symm
      obtain rfl : fn = Tryd.f5 := (Option.some.inj (Tryd.func5.symm.trans hfn)).symm
      exact ⟨by kernel_rfl, fun j t ht => by
        rw [Tryd.params5] at ht
        have hm : t ∈ [30, 57] := by simpa using Array.mem_of_getElem? ht
        have hall : ([30, 57].all fun u => !Tryd.prog.wantsStandIn u) = true := by kernel_rfl
        exact (show Tryd.prog.wantsStandIn t = false by simpa using List.all_eq_true.1 hall t hm)⟩)
    (by kernel_rfl)
end Go.Proofs.YtbdeppdjelcioaaDoor
