import Derived.Test.YtbdeppdjelcioaaDoorRows
import Derived.WalkKit
import Derived.ProofKit
import Derived.OpenShut
import Derived.Test.YtbdeppdjelcioaaDoorTie
import Derived.Test.YtbdeppdjelcioaaDoorCards
import Derived.Test.YtbdeppdjelcioaaDoorM
import Derived.Test.YtbdeppdjelcioaaDoorM5
import Derived.Test.YtbdeppdjelcioaaDoorA
import Derived.Test.YtbdeppdjelcioaaDoorBT
import Derived.Test.YtbdeppdjelcioaaDoorMJ
import Derived.Test.YtbdeppdjelcioaaDoorDT
import Derived.Test.YtbdeppdjelcioaaDoorJs
import Derived.Test.YtbdeppdjelcioaaDoorGd
import Derived.Test.YtbdeppdjelcioaaDoorGfar
import Derived.Test.YtbdeppdjelcioaaDoorGs
import Derived.Test.YtbdeppdjelcioaaDoorGnear
import Derived.Deep.QuietTactic
import Derived.BigQuiet
import Derived.RowKit3
import Derived.LaidMore
import Derived.Stop.Joined
import Derived.SevenTiedAt
import Derived.MakeChecks
import Derived.Lib.LaidTab
namespace Go.Proofs.YtbdeppdjelcioaaDoor.fbitAgain
open Go.ChangeShapes Go.WideShapes Go.ChangeAt Go.RowKit
set_option linter.unusedVariables false      -- a walk need not use every 'w<i>' (that an integer argument fits its kind)

theorem j3 (w : World) (hT : Tab w) : Calls Tryd.prog 25 #[.bool false, .int .u64 3, .int .i64 (-1)] w fun e w' => e = .returned (.tuple #[.float .f32 1069547520, .int .i64 0]) ∧ Grown w w' := by
  have h := join_s false 3 0 (by decide) (by decide) (-1) (by omega) (by omega) (by decide) w hT
  have e1 : jrS 3 (-1 + ((0 : Nat) : Int)) = 1069547520 := by decide +kernel
  rw [e1] at h
  exact h
theorem e3 : (FloatKind.f32.format.order 1069547520 1069547520 != some .eq) = false := by
  have e : FloatKind.f32.format.order (wS false 1069547520) (wS false 1069547520) = some (compare (plz false 1069547520) (plz false 1069547520)) := ordS false false _ _ (by omega) (by omega)
  have e2 : wS false 1069547520 = 1069547520 := by decide
  rw [e2] at e
  rw [e, cmp_eq rfl]; rfl

theorem own : ownKnob Tryd.prog.godebug = none := by kernel_rfl

/-! ### STEP 1: THE WALK: the Go text returns true. 'Grown w w'': the world has at most new blocks (Derived/RowKit3.lean). Part the cases AHEAD of 'go_enter' where a test parts the walk; take each callee by a contract of your own. -/
theorem walk (a0 : Bool) (a1 : Int) (a2 : Int) (w1 : (Lit.int .u64 a1).wf = true) (w2 : (Lit.int .i64 a2).wf = true) (w : World) (hT : Tab w) :
    Calls Tryd.prog 6 #[.bool a0, .int .u64 a1, .int .i64 a2] w fun e w' => e = .returned (.bool true) ∧ Grown w w' := by
  obtain ⟨s, rfl⟩ := Int.eq_ofNat_of_zero_le (a := a1) (by simp [Lit.wf, IntKind.min, IntKind.max, IntKind.bits, IntKind.signed] at w1; omega)
  have hs : s < 18446744073709551616 := by simp [Lit.wf, IntKind.min, IntKind.max, IntKind.bits, IntKind.signed] at w1; omega
  have he : -9223372036854775808 ≤ a2 ∧ a2 < 9223372036854775808 := by simp [Lit.wf, IntKind.min, IntKind.max, IntKind.bits, IntKind.signed] at w2; omega
  have p_d : ∀ w', Grown w w' → Calls Tryd.prog 34 #[.bool a0, .int .u64 (s : Int), .int .i64 a2, .int .u64 4503599627370496, .int .i64 (-1074)] w' fun e w'' => e = .returned (.bool true) ∧ Grown w' w'' := fun w' g => again_d a0 s hs a2 he.1 he.2 w' (hT.grown g)
  have p_far : ∀ w', Grown w w' → Calls Tryd.prog 35 #[.bool a0, .int .u64 (s : Int), .int .i64 a2, .int .u64 4503599627370496, .int .i64 (-1074)] w' fun e w'' => e = .returned (.bool true) ∧ Grown w' w'' := fun w' g => again_far a0 s hs a2 he.1 he.2 w' (hT.grown g)
  have p_s : ∀ w', Grown w w' → Calls Tryd.prog 36 #[.bool a0, .int .u64 (s : Int), .int .i64 a2, .int .u64 8388608, .int .i64 (-149)] w' fun e w'' => e = .returned (.bool true) ∧ Grown w' w'' := fun w' g => again_s a0 s hs a2 he.1 he.2 w' (hT.grown g)
  have p_near : ∀ w', Grown w w' → Calls Tryd.prog 37 #[.bool a0, .int .u64 (s : Int), .int .i64 a2, .int .u64 8388608, .int .i64 (-149)] w' fun e w'' => e = .returned (.bool true) ∧ Grown w' w'' := fun w' g => again_near a0 s hs a2 he.1 he.2 w' (hT.grown g)
  have h3 := j3 w hT
  have q3 := e3
  clear w1 w2 hs he hT
  go_enter Tryd.func6, Tryd.ntmps6
  go_wp2_with (first | (go_at_call 25; refine (h3).mono ?_; rintro e w' ⟨rfl, g0⟩) | (go_at_call 34; refine (p_d _ ?_).mono ?_; (exact (by repeat (with_reducible (first | assumption | exact Grown.refl _ | apply Grown.drew | apply Grown.alloc | apply gdrewN | (refine gtrans ?_ (by assumption)))))); rintro e w' ⟨rfl, g1⟩) | (go_at_call 35; refine (p_far _ ?_).mono ?_; (exact (by repeat (with_reducible (first | assumption | exact Grown.refl _ | apply Grown.drew | apply Grown.alloc | apply gdrewN | (refine gtrans ?_ (by assumption)))))); rintro e w' ⟨rfl, g1⟩) | (go_at_call 36; refine (p_s _ ?_).mono ?_; (exact (by repeat (with_reducible (first | assumption | exact Grown.refl _ | apply Grown.drew | apply Grown.alloc | apply gdrewN | (refine gtrans ?_ (by assumption)))))); rintro e w' ⟨rfl, g1⟩) | (go_at_call 37; refine (p_near _ ?_).mono ?_; (exact (by repeat (with_reducible (first | assumption | exact Grown.refl _ | apply Grown.drew | apply Grown.alloc | apply gdrewN | (refine gtrans ?_ (by assumption)))))); rintro e w' ⟨rfl, g1⟩))
  exact bodyPost_ret (v := .bool true) (by simp [results, Tryd.results6, go_sem] <;> simp only [*]) rfl ⟨rfl, (by repeat (with_reducible (first | assumption | exact Grown.refl _ | apply Grown.drew | apply Grown.alloc | apply gdrewN | (refine gtrans ?_ (by assumption)))))⟩

/-! ### THE ROW's STEP: WRITTEN OUT: LEAVE IT -/
set_option maxRecDepth 100000 in
theorem lifted (os : Os) (started : os.Started) (H : Type) (enc : TypeId × Value → H) :
    ReturnsInHanded {} Tryd.checked os 6 .any (fun w args => (Rows.fbitAgainSpec.pre enc Tryd.prog Tryd.f6 [] false w args ∧ laidMetH Tryd.prog [("math/bits.deBruijn64tab", Rows.laid_math_bits_deBruijn64tab)] w) ∧ sizedMet enc Tryd.prog Tryd.f6 (OpenSpec.ofChange Rows.fbitAgainSpec) false w args)
      (Rows.fbitAgainSpec.post enc Tryd.prog Tryd.f6 false true false false) := by
  refine returnsInHanded_of_change_and (C := Tryd.checked) (X := fun w _ => laidMetH Tryd.prog [("math/bits.deBruijn64tab", Rows.laid_math_bits_deBruijn64tab)] w) (fun _ _ _ hh h => h.of_heap hh) own started (by kernel_rfl) Tryd.func6
    (ChangeSpec.witness_shaped (enc := enc) (C := Tryd.checked) (os := os) (X := fun w _ => laidMetH Tryd.prog [("math/bits.deBruijn64tab", Rows.laid_math_bits_deBruijn64tab)] w) false (World.doorLaid Tryd.prog 14 os) #[.bool false, .int .u64 0, .int .i64 0] 8 rfl (World.shaped_of_RefB (by kernel_rfl) (by kernel_rfl)) (by kernel_rfl) (by kernel_rfl) (by kernel_rfl) (door_met os _)) ?_
  intro W base args ds gs before hval0 hW _ _ hL _
  have hval : ∀ (j : Nat) t v, Tryd.f6.params[j]? = some t → args[j]? = some v → Value.okWide Tryd.prog W .any base t v := hval0
  have hW' := hW
  obtain ⟨p, q, hA0, hV, rfl, hfz, hnd⟩ := hW
  have hA : DataW.TrodAll enc Tryd.prog W 0 (fun _ => true) true Tryd.f6.params.toList args.toList ds p := hA0
  rw [Tryd.params6] at hA hval
  obtain ⟨v0, vs0, d0, ds0, p0, q0, hargs, rfl, rfl, h0, r0⟩ := trodAll_cons hA
  obtain ⟨v1, vs1, d1, ds1, p1, q1, rfl, rfl, rfl, h1, r1⟩ := trodAll_cons r0
  obtain ⟨v2, vs2, d2, ds2, p2, q2, rfl, rfl, rfl, h2, r2⟩ := trodAll_cons r1
  obtain ⟨rfl, rfl, rfl⟩ := trodAll_nil r2
  obtain rfl : args = #[v0, v1, v2] := by cases args; simp_all
  obtain ⟨rfl, rfl⟩ := trodVars_none hV
  obtain ⟨a0, rfl, rfl, rfl⟩ := open_bool Tryd.underlying4 (hval 0 4 v0 rfl rfl) h0
  obtain ⟨a1, rfl, rfl, rfl, w1⟩ := open_int Tryd.underlying30 (hval 1 30 v1 rfl rfl) h1
  obtain ⟨a2, rfl, rfl, rfl, w2⟩ := open_int Tryd.underlying3 (hval 2 3 v2 rfl rfl) h2
  clear hA0 hval0
  simp only [List.append_nil] at hW'
  refine (walk a0 a1 a2 w1 w2 W (tab_of_laid hL)).mono fun e W' ⟨he, hg⟩ => ?_
  subst he
  exact ⟨_, rfl, post_of_same (pa := []) (pv := []) hW' (fun _ _ _ => (trodAll_cons_mk (shut_bool Tryd.underlying4 _) trodAll_mk0)) (fun sp _ => (trodAll_cons_mk (shut_bool Tryd.underlying4 _) (trodAll_cons_mk (shut_int Tryd.underlying30 w1) (trodAll_cons_mk (shut_int Tryd.underlying3 w2) trodAll_mk0)))) (fun _ _ => rfl) rfl
    (hg.frame _) hg.2.1 (ok_one (by kernel_rfl) rfl (okWide_bool_mk Tryd.underlying4 _))⟩

theorem over : Rows.fbitAgainRow.holds Tryd.pinned (OpenSpec.ofChange Rows.fbitAgainSpec) :=
  OpenClaim.holds_of_wide 6 Tryd.f6 rfl rfl rfl rfl rfl rfl rfl ⟨rfl, rfl, rfl, rfl, rfl⟩ rfl rfl rfl rfl rfl (by kernel_rfl) Tryd.func6 (by kernel_rfl)
    (of_decide_eq_true (by kernel_rfl)) (by unfold Func.isWrapper; first | (rw [if_pos (by decide +kernel)]; kernel_rfl) | (rw [if_neg (by decide +kernel)]; exact ⟨rfl, rfl⟩))
    (fun os started H enc _ => lifted os started H enc)

/-- ████ THE STATEMENT ████ -/
theorem proved : Rows.FbitAgainSaid :=
  over
end Go.Proofs.YtbdeppdjelcioaaDoor.fbitAgain

namespace Go.Proofs.YtbdeppdjelcioaaDoor
open Go
theorem fbitAgain_holds : Rows.FbitAgainCardSaid :=
  Claim7.holds_tied_plain_at .later [] [.data] true (true, "61c395b8997f2029f0eec3313754324c5fd1ff456170c699e3ee3f1d5692dcff") false
    fbitAgain.proved (fun _ h => by cases h) (by kernel_rfl) (fun _ h => by cases h) fbitAgain_row_tie rfl ⟨rfl, rfl⟩ (by kernel_rfl) rfl
    (fun f fn hf hfn => by
      obtain rfl : f = 6 := Option.some.inj ((show Tryd.prog.funcNamed "verge/vergelaw1.FbitAgain" = some 6 by kernel_rfl).symm.trans hf) |>.symm
      obtain rfl : fn = Tryd.f6 := (Option.some.inj (Tryd.func6.symm.trans hfn)).symm
      exact ⟨by kernel_rfl, fun j t ht => by
        rw [Tryd.params6] at ht
        have hm : t ∈ [4, 30, 3] := by simpa using Array.mem_of_getElem? ht
        have hall : ([4, 30, 3].all fun u => !Tryd.prog.wantsStandIn u) = true := by kernel_rfl
        exact (show Tryd.prog.wantsStandIn t = false by simpa using List.all_eq_true.1 hall t hm)⟩)
    (by kernel_rfl)
end Go.Proofs.YtbdeppdjelcioaaDoor
