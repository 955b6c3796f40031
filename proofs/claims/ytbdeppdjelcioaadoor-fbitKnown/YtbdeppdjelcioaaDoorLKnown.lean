import Derived.Test.YtbdeppdjelcioaaDoorRows
import Derived.WalkKit
import Derived.ProofKit
import Derived.OpenShut
import Derived.Test.YtbdeppdjelcioaaDoorTie
import Derived.Test.YtbdeppdjelcioaaDoorCards
import Derived.Test.YtbdeppdjelcioaaDoorM
import Derived.Test.YtbdeppdjelcioaaDoorM5
import Derived.Test.YtbdeppdjelcioaaDoorA
import Derived.Test.YtbdeppdjelcioaaDoorBT
import Derived.Test.YtbdeppdjelcioaaDoorMJ
import Derived.Test.YtbdeppdjelcioaaDoorDT
import Derived.Test.YtbdeppdjelcioaaDoorKN
import Derived.Test.YtbdeppdjelcioaaDoorKM
import Derived.Deep.QuietTactic
import Derived.BigQuiet
import Derived.RowKit3
import Derived.LaidMore
import Derived.Stop.Joined
import Derived.SevenTiedAt
import Derived.MakeChecks
import Derived.Lib.LaidTab
namespace Go.Proofs.YtbdeppdjelcioaaDoor.fbitKnown
open Go.ChangeShapes Go.WideShapes Go.ChangeAt Go.RowKit
set_option linter.unusedVariables false      -- a walk need not use every 'w<i>' (that an integer argument fits its kind)

theorem own : ownKnob Tryd.prog.godebug = none := by kernel_rfl

/-! ### STEP 1: THE WALK: the Go text returns true. 'Grown w w'': the world has at most new blocks (Derived/RowKit3.lean). Part the cases AHEAD of 'go_enter' where a test parts the walk; take each callee by a contract of your own. -/
set_option maxHeartbeats 4000000 in
set_option maxRecDepth 20000 in
theorem walk  (w : World) (hT : Tab w) :
    Calls Tryd.prog 3 #[] w fun e w' => e = .returned (.bool true) ∧ Grown w w' := by
  have hq1 := q1
  have hq2 := q2
  have hq3 := q3
  have hq4 := q4
  have hq5 := q5
  have hq6 := q6
  have hq7 := q7
  have hn1 := n1
  have hn2 := n2
  have hv1 := v1
  have hv2 : ∀ w : World, _ := fun w => run_convert_float_float (P := Tryd.prog) w 22 27 .f64 .f32 18442240474082181120 4286578688 (by kernel_rfl) (by kernel_rfl) (by decide +kernel)
  have hv3 : ∀ w : World, _ := fun w => run_convert_float_float (P := Tryd.prog) w 22 27 .f64 .f32 9218868437227405312 2139095040 (by kernel_rfl) (by kernel_rfl) (by decide +kernel)
  go_enter Tryd.func3, Tryd.ntmps3
  go_wp2_with fail
  refine (k1 _).mono ?_; rintro e w0 ⟨rfl, rfl⟩
  go_wp2_with fail
  refine (k2 _).mono ?_; rintro e w1 ⟨rfl, rfl⟩
  go_wp2_with fail
  refine (k3 _).mono ?_; rintro e w2 ⟨rfl, g2⟩
  go_wp2_with fail
  refine (k4 _).mono ?_; rintro e w3 ⟨rfl, g3⟩
  go_wp2_with fail
  refine (k5 _).mono ?_; rintro e w4 ⟨rfl, g4⟩
  go_wp2_with fail
  refine (k6 _).mono ?_; rintro e w5 ⟨rfl, g5⟩
  go_wp2_with fail
  refine (k7 _).mono ?_; rintro e w6 ⟨rfl, g6⟩
  go_wp2_with fail
  refine (k8 _).mono ?_; rintro e w7 ⟨rfl, g7⟩
  go_wp2_with fail
  refine (k9 _).mono ?_; rintro e w8 ⟨rfl, g8⟩
  go_wp2_with fail
  refine (k10 _).mono ?_; rintro e w9 ⟨rfl, g9⟩
  go_wp2_with fail
  refine (k11 _).mono ?_; rintro e w10 ⟨rfl, g10⟩
  go_wp2_with fail
  refine (k12 _).mono ?_; rintro e w11 ⟨rfl, rfl⟩
  go_wp2_with fail
  refine (k13 _).mono ?_; rintro e w12 ⟨rfl, g12⟩
  go_wp2_with fail
  refine (k12 _).mono ?_; rintro e w13 ⟨rfl, rfl⟩
  go_wp2_with fail
  refine (k12 _).mono ?_; rintro e w14 ⟨rfl, rfl⟩
  go_wp2_with fail
  refine (k16 _).mono ?_; rintro e w15 ⟨rfl, g15⟩
  go_wp2_with fail
  refine (k17 _).mono ?_; rintro e w16 ⟨rfl, g16⟩
  go_wp2_with fail
  refine (k18 _).mono ?_; rintro e w17 ⟨rfl, g17⟩
  go_wp2_with fail
  refine (k19 _).mono ?_; rintro e w18 ⟨rfl, g18⟩
  go_wp2_with fail
  refine (k10 _).mono ?_; rintro e w19 ⟨rfl, g19⟩
  go_wp2_with fail
  refine (k21 _).mono ?_; rintro e w20 ⟨rfl, g20⟩
  go_wp2_with fail
  refine (k22 _).mono ?_; rintro e w21 ⟨rfl, g21⟩
  go_wp2_with fail
  refine (k23 _ ?_).mono ?_
  · exact hT.grown (by repeat (with_reducible (first | assumption | exact Grown.refl _ | apply Grown.drew | apply Grown.alloc | apply gdrewN | (refine gtrans ?_ (by assumption)))))
  rintro e w22 ⟨rfl, g22⟩
  go_wp2_with fail
  refine (k24 _ ?_).mono ?_
  · exact hT.grown (by repeat (with_reducible (first | assumption | exact Grown.refl _ | apply Grown.drew | apply Grown.alloc | apply gdrewN | (refine gtrans ?_ (by assumption)))))
  rintro e w23 ⟨rfl, g23⟩
  go_wp2_with fail
  refine (k10 _).mono ?_; rintro e w24 ⟨rfl, g24⟩
  go_wp2_with fail
  refine (k25 _).mono ?_; rintro e w25 ⟨rfl, rfl⟩
  go_wp2_with fail
  refine (k26 _).mono ?_; rintro e w26 ⟨rfl, rfl⟩
  go_wp2_with fail
  refine (k27 _).mono ?_; rintro e w27 ⟨rfl, rfl⟩
  go_wp2_with fail
  refine (k28 _).mono ?_; rintro e w28 ⟨rfl, rfl⟩
  go_wp2_with fail
  refine (k29 _).mono ?_; rintro e w29 ⟨rfl, rfl⟩
  go_wp2
  exact bodyPost_ret (v := .bool true) (by simp [results, Tryd.results3, go_sem] <;> simp only [*]) rfl ⟨rfl, (by repeat (with_reducible (first | assumption | exact Grown.refl _ | apply Grown.drew | apply Grown.alloc | apply gdrewN | (refine gtrans ?_ (by assumption)))))⟩

/-! ### THE ROW's STEP: WRITTEN OUT: LEAVE IT -/
set_option maxRecDepth 100000 in
theorem lifted (os : Os) (started : os.Started) (H : Type) (enc : TypeId × Value → H) :
    ReturnsInHanded {} Tryd.checked os 3 .any (fun w args => (Rows.fbitKnownSpec.pre enc Tryd.prog Tryd.f3 [] false w args ∧ laidMetH Tryd.prog [("math/bits.deBruijn64tab", Rows.laid_math_bits_deBruijn64tab)] w) ∧ sizedMet enc Tryd.prog Tryd.f3 (OpenSpec.ofChange Rows.fbitKnownSpec) false w args)
      (Rows.fbitKnownSpec.post enc Tryd.prog Tryd.f3 false true false false) := by
  refine returnsInHanded_of_change_and (C := Tryd.checked) (X := fun w _ => laidMetH Tryd.prog [("math/bits.deBruijn64tab", Rows.laid_math_bits_deBruijn64tab)] w) (fun _ _ _ hh h => h.of_heap hh) own started (by kernel_rfl) Tryd.func3
    (ChangeSpec.witness_shaped (enc := enc) (C := Tryd.checked) (os := os) (X := fun w _ => laidMetH Tryd.prog [("math/bits.deBruijn64tab", Rows.laid_math_bits_deBruijn64tab)] w) false (World.doorLaid Tryd.prog 14 os) #[] 8 rfl (World.shaped_of_RefB (by kernel_rfl) (by kernel_rfl)) (by kernel_rfl) (by kernel_rfl) (by kernel_rfl) (door_met os _)) ?_
  intro W base args ds gs before hval0 hW _ _ hL _
  have hval : ∀ (j : Nat) t v, Tryd.f3.params[j]? = some t → args[j]? = some v → Value.okWide Tryd.prog W .any base t v := hval0
  have hW' := hW
  obtain ⟨p, q, hA0, hV, rfl, hfz, hnd⟩ := hW
  have hA : DataW.TrodAll enc Tryd.prog W 0 (fun _ => true) true Tryd.f3.params.toList args.toList ds p := hA0
  rw [Tryd.params3] at hA hval
  obtain ⟨rfl, rfl, rfl⟩ := trodAll_none hA
  obtain ⟨rfl, rfl⟩ := trodVars_none hV
  clear hA0 hval0
  simp only [List.append_nil] at hW'
  refine (walk  W (tab_of_laid hL)).mono fun e W' ⟨he, hg⟩ => ?_
  subst he
  exact ⟨_, rfl, post_of_same (pa := []) (pv := []) hW' (fun _ _ _ => (trodAll_cons_mk (shut_bool Tryd.underlying4 _) trodAll_mk0)) (fun sp _ => rfl) (fun _ _ => rfl) rfl
    (hg.frame _) hg.2.1 (ok_one (by kernel_rfl) rfl (okWide_bool_mk Tryd.underlying4 _))⟩

theorem over : Rows.fbitKnownRow.holds Tryd.pinned (OpenSpec.ofChange Rows.fbitKnownSpec) :=
  OpenClaim.holds_of_wide 3 Tryd.f3 rfl rfl rfl rfl rfl rfl rfl ⟨rfl, rfl, rfl, rfl, rfl⟩ rfl rfl rfl rfl rfl (by kernel_rfl) Tryd.func3 (by kernel_rfl)
    (of_decide_eq_true (by kernel_rfl)) (by unfold Func.isWrapper; first | (rw [if_pos (by decide +kernel)]; kernel_rfl) | (rw [if_neg (by decide +kernel)]; exact ⟨rfl, rfl⟩))
    (fun os started H enc _ => lifted os started H enc)

/-- ████ THE STATEMENT ████ -/
theorem proved : Rows.FbitKnownSaid :=
  over
end Go.Proofs.YtbdeppdjelcioaaDoor.fbitKnown

namespace Go.Proofs.YtbdeppdjelcioaaDoor
open Go
theorem fbitKnown_holds : Rows.FbitKnownCardSaid :=
  Claim7.holds_tied_plain_at .later [] [.data] true (true, "61c395b8997f2029f0eec3313754324c5fd1ff456170c699e3ee3f1d5692dcff") false
    fbitKnown.proved (fun _ h => by cases h) (by kernel_rfl) (fun _ h => by cases h) fbitKnown_row_tie rfl ⟨rfl, rfl⟩ (by kernel_rfl) rfl
    (fun f fn hf hfn => by
      obtain rfl : f = 3 := Option.some.inj ((show Tryd.prog.funcNamed "verge/vergelaw1.FbitKnown" = some 3 by kernel_rfl).symm.trans hf) |>.symm
      obtain rfl : fn = Tryd.f3 := (Option.some.inj (Tryd.func3.symm.trans hfn)).symm
      exact ⟨by kernel_rfl, fun j t ht => by
        rw [Tryd.params3] at ht
        simp at ht⟩)
    (by kernel_rfl)
end Go.Proofs.YtbdeppdjelcioaaDoor
