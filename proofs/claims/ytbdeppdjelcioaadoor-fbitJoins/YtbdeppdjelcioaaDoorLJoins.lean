import Derived.Test.YtbdeppdjelcioaaDoorRows
import Derived.WalkKit
import Derived.ProofKit
import Derived.OpenShut
import Derived.Test.YtbdeppdjelcioaaDoorTie
import Derived.Test.YtbdeppdjelcioaaDoorCards
import Derived.Test.YtbdeppdjelcioaaDoorM
import Derived.Test.YtbdeppdjelcioaaDoorM5
import Derived.Test.YtbdeppdjelcioaaDoorA
import Derived.Test.YtbdeppdjelcioaaDoorBT
import Derived.Test.YtbdeppdjelcioaaDoorMJ
import Derived.Test.YtbdeppdjelcioaaDoorMG
import Derived.Test.YtbdeppdjelcioaaDoorDT
import Derived.Test.YtbdeppdjelcioaaDoorSD
import Derived.Test.YtbdeppdjelcioaaDoorSS
import Derived.Test.YtbdeppdjelcioaaDoorJd
import Derived.Test.YtbdeppdjelcioaaDoorJfar
import Derived.Test.YtbdeppdjelcioaaDoorJs
import Derived.Test.YtbdeppdjelcioaaDoorJnear
import Derived.Test.YtbdeppdjelcioaaDoorRJD
import Derived.Test.YtbdeppdjelcioaaDoorRJS
import Derived.Deep.QuietTactic
import Derived.BigQuiet
import Derived.RowKit3
import Derived.LaidMore
import Derived.Stop.Joined
import Derived.SevenTiedAt
import Derived.MakeChecks
import Derived.Lib.LaidTab
namespace Go.Proofs.YtbdeppdjelcioaaDoor.fbitJoins
open Go.ChangeShapes Go.WideShapes Go.ChangeAt Go.RowKit
set_option linter.unusedVariables false      -- a walk need not use every 'w<i>' (that an integer argument fits its kind)

theorem packD (neg : Bool) (s : Nat) (hs : s < 18446744073709551616) (e : Int) (h1 : -9223372036854775808 ≤ e) (h2 : e < 9223372036854775808) : ∃ (u : Nat) (er : Int) (o : Bool), ((o = true ∧ er = 0) ∨ (o = false ∧ er = 1)) ∧
    (∀ w : World, Tab w → Calls Tryd.prog 19 #[.bool neg, .int .u64 (s : Int), .int .i64 e] w fun e w' => e = .returned (.tuple #[.float .f64 u, .int .i64 er]) ∧ Grown w w') ∧
    (∀ w : World, Tab w → Calls Tryd.prog 23 #[.bool neg, .int .u64 (s : Int), .int .i64 e] w fun e w' => e = .returned (.tuple #[.float .f64 u, .int .i64 er]) ∧ Grown w w') ∧
    (∀ w : World, Calls Tryd.prog 24 #[.bool true, .bool neg, .int .u64 (s : Int), .int .i64 e] w fun e w' => e = .returned (.tuple #[.int .u64 (u : Int), .bool o]) ∧ Grown w w') ∧
    (∀ w : World, Calls Tryd.prog 12 #[.float .f64 u, .int .u64 (u : Int)] w fun e w' => e = .returned (.bool true) ∧ Grown w w') := by
  have hz := ise_D false 0 (by omega)
  by_cases c0 : s = 0
  · subst c0
    exact ⟨0, 0, true, Or.inl ⟨rfl, rfl⟩, fun w _ => (joinz_d neg e w).mono (fun e w'' h => ⟨h.1, h.2 ▸ Grown.refl _⟩), fun w _ => (joinz_far neg e w).mono (fun e w'' h => ⟨h.1, h.2 ▸ Grown.refl _⟩), fun w => (rjz_D neg e w).mono (fun e w'' h => ⟨h.1, h.2 ▸ Grown.refl _⟩), hz⟩
  obtain ⟨o, k, ho, hok⟩ := odd_pow s c0
  have hx : o * 2 ^ k < 18446744073709551616 := by rw [← hok]; exact hs
  have h64 : o < 18446744073709551616 := Nat.lt_of_le_of_lt (Nat.le_mul_of_pos_right o (Nat.two_pow_pos k)) hx
  rw [hok]
  cases hj : jokD o (e + k)
  · exact ⟨0, 1, false, Or.inr ⟨rfl, rfl⟩, fun w t => joinx_d neg o k ho hx e h1 h2 hj w t, fun w t => joinx_far neg o k ho hx e h1 h2 hj w t, rjg_D neg o k ho hx e h1 h2 false hj 0 rfl, hz⟩
  · obtain ⟨r1, r2, r3, r4⟩ := jrD_spec o (by omega) h64 (e + k) hj
    exact ⟨_, 0, true, Or.inl ⟨rfl, rfl⟩, fun w t => join_d neg o k ho hx e h1 h2 hj w t, fun w t => join_far neg o k ho hx e h1 h2 hj w t, rjg_D neg o k ho hx e h1 h2 true hj _ rfl, ise_D _ _ (by omega)⟩

theorem packS (neg : Bool) (s : Nat) (hs : s < 18446744073709551616) (e : Int) (h1 : -9223372036854775808 ≤ e) (h2 : e < 9223372036854775808) : ∃ (u : Nat) (er : Int) (o : Bool), ((o = true ∧ er = 0) ∨ (o = false ∧ er = 1)) ∧
    (∀ w : World, Tab w → Calls Tryd.prog 25 #[.bool neg, .int .u64 (s : Int), .int .i64 e] w fun e w' => e = .returned (.tuple #[.float .f32 u, .int .i64 er]) ∧ Grown w w') ∧
    (∀ w : World, Tab w → Calls Tryd.prog 26 #[.bool neg, .int .u64 (s : Int), .int .i64 e] w fun e w' => e = .returned (.tuple #[.float .f32 u, .int .i64 er]) ∧ Grown w w') ∧
    (∀ w : World, Calls Tryd.prog 24 #[.bool false, .bool neg, .int .u64 (s : Int), .int .i64 e] w fun e w' => e = .returned (.tuple #[.int .u64 (u : Int), .bool o]) ∧ Grown w w') ∧
    (∀ w : World, Calls Tryd.prog 27 #[.float .f32 u, .int .u64 (u : Int)] w fun e w' => e = .returned (.bool true) ∧ Grown w w') := by
  have hz := ise_S false 0 (by omega)
  by_cases c0 : s = 0
  · subst c0
    exact ⟨0, 0, true, Or.inl ⟨rfl, rfl⟩, fun w _ => (joinz_s neg e w).mono (fun e w'' h => ⟨h.1, h.2 ▸ Grown.refl _⟩), fun w _ => (joinz_near neg e w).mono (fun e w'' h => ⟨h.1, h.2 ▸ Grown.refl _⟩), fun w => (rjz_S neg e w).mono (fun e w'' h => ⟨h.1, h.2 ▸ Grown.refl _⟩), hz⟩
  obtain ⟨o, k, ho, hok⟩ := odd_pow s c0
  have hx : o * 2 ^ k < 18446744073709551616 := by rw [← hok]; exact hs
  have h64 : o < 18446744073709551616 := Nat.lt_of_le_of_lt (Nat.le_mul_of_pos_right o (Nat.two_pow_pos k)) hx
  rw [hok]
  cases hj : jokS o (e + k)
  · exact ⟨0, 1, false, Or.inr ⟨rfl, rfl⟩, fun w t => joinx_s neg o k ho hx e h1 h2 hj w t, fun w t => joinx_near neg o k ho hx e h1 h2 hj w t, rjg_S neg o k ho hx e h1 h2 false hj 0 rfl, hz⟩
  · obtain ⟨r1, r2, r3, r4⟩ := jrS_spec o (by omega) h64 (e + k) hj
    exact ⟨_, 0, true, Or.inl ⟨rfl, rfl⟩, fun w t => join_s neg o k ho hx e h1 h2 hj w t, fun w t => join_near neg o k ho hx e h1 h2 hj w t, rjg_S neg o k ho hx e h1 h2 true hj _ rfl, ise_S _ _ (by omega)⟩

theorem own : ownKnob Tryd.prog.godebug = none := by kernel_rfl

/-! ### STEP 1: THE WALK: the Go text returns true. 'Grown w w'': the world has at most new blocks (Derived/RowKit3.lean). Part the cases AHEAD of 'go_enter' where a test parts the walk; take each callee by a contract of your own. -/
theorem walk (a0 : Bool) (a1 : Int) (a2 : Int) (w1 : (Lit.int .u64 a1).wf = true) (w2 : (Lit.int .i64 a2).wf = true) (w : World) (hT : Tab w) :
    Calls Tryd.prog 4 #[.bool a0, .int .u64 a1, .int .i64 a2] w fun e w' => e = .returned (.bool true) ∧ Grown w w' := by
  obtain ⟨s, rfl⟩ := Int.eq_ofNat_of_zero_le (a := a1) (by simp [Lit.wf, IntKind.min, IntKind.max, IntKind.bits, IntKind.signed] at w1; omega)
  have hs : s < 18446744073709551616 := by simp [Lit.wf, IntKind.min, IntKind.max, IntKind.bits, IntKind.signed] at w1; omega
  have he : -9223372036854775808 ≤ a2 ∧ a2 < 9223372036854775808 := by simp [Lit.wf, IntKind.min, IntKind.max, IntKind.bits, IntKind.signed] at w2; omega
  obtain ⟨u1, r1, o1, q1, p1, p2, p3, p4⟩ := packD a0 s hs a2 he.1 he.2
  obtain ⟨u2, r2, o2, q2, p5, p6, p7, p8⟩ := packS a0 s hs a2 he.1 he.2
  clear w1 w2 hs he
  rcases q1 with ⟨rfl, rfl⟩ | ⟨rfl, rfl⟩
  · rcases q2 with ⟨rfl, rfl⟩ | ⟨rfl, rfl⟩
    · skip
      go_enter Tryd.func4, Tryd.ntmps4
      go_wp2_with fail
      refine (p1 _ ?_).mono ?_
      · exact hT.grown (by repeat (with_reducible (first | assumption | exact Grown.refl _ | apply Grown.drew | apply Grown.alloc | apply gdrewN | (refine gtrans ?_ (by assumption)))))
      rintro e w1 ⟨rfl, g1⟩
      go_wp2_with fail
      refine (p2 _ ?_).mono ?_
      · exact hT.grown (by repeat (with_reducible (first | assumption | exact Grown.refl _ | apply Grown.drew | apply Grown.alloc | apply gdrewN | (refine gtrans ?_ (by assumption)))))
      rintro e w2 ⟨rfl, g2⟩
      go_wp2_with fail
      refine (p3 _).mono ?_
      rintro e w3 ⟨rfl, g3⟩
      go_wp2_with fail
      refine (p4 _).mono ?_
      rintro e w4 ⟨rfl, g4⟩
      go_wp2_with fail
      refine (p4 _).mono ?_
      rintro e w5 ⟨rfl, g5⟩
      go_wp2_with fail
      refine (p5 _ ?_).mono ?_
      · exact hT.grown (by repeat (with_reducible (first | assumption | exact Grown.refl _ | apply Grown.drew | apply Grown.alloc | apply gdrewN | (refine gtrans ?_ (by assumption)))))
      rintro e w6 ⟨rfl, g6⟩
      go_wp2_with fail
      refine (p6 _ ?_).mono ?_
      · exact hT.grown (by repeat (with_reducible (first | assumption | exact Grown.refl _ | apply Grown.drew | apply Grown.alloc | apply gdrewN | (refine gtrans ?_ (by assumption)))))
      rintro e w7 ⟨rfl, g7⟩
      go_wp2_with fail
      refine (p7 _).mono ?_
      rintro e w8 ⟨rfl, g8⟩
      go_wp2_with fail
      refine (p8 _).mono ?_
      rintro e w9 ⟨rfl, g9⟩
      go_wp2_with fail
      refine (p8 _).mono ?_
      rintro e w10 ⟨rfl, g10⟩
      go_wp2
      exact bodyPost_ret (v := .bool true) (by simp [results, Tryd.results4, go_sem] <;> simp only [*]) rfl ⟨rfl, (by repeat (with_reducible (first | assumption | exact Grown.refl _ | apply Grown.drew | apply Grown.alloc | apply gdrewN | (refine gtrans ?_ (by assumption)))))⟩
    · skip
      go_enter Tryd.func4, Tryd.ntmps4
      go_wp2_with fail
      refine (p1 _ ?_).mono ?_
      · exact hT.grown (by repeat (with_reducible (first | assumption | exact Grown.refl _ | apply Grown.drew | apply Grown.alloc | apply gdrewN | (refine gtrans ?_ (by assumption)))))
      rintro e w1 ⟨rfl, g1⟩
      go_wp2_with fail
      refine (p2 _ ?_).mono ?_
      · exact hT.grown (by repeat (with_reducible (first | assumption | exact Grown.refl _ | apply Grown.drew | apply Grown.alloc | apply gdrewN | (refine gtrans ?_ (by assumption)))))
      rintro e w2 ⟨rfl, g2⟩
      go_wp2_with fail
      refine (p3 _).mono ?_
      rintro e w3 ⟨rfl, g3⟩
      go_wp2_with fail
      refine (p4 _).mono ?_
      rintro e w4 ⟨rfl, g4⟩
      go_wp2_with fail
      refine (p4 _).mono ?_
      rintro e w5 ⟨rfl, g5⟩
      go_wp2_with fail
      refine (p5 _ ?_).mono ?_
      · exact hT.grown (by repeat (with_reducible (first | assumption | exact Grown.refl _ | apply Grown.drew | apply Grown.alloc | apply gdrewN | (refine gtrans ?_ (by assumption)))))
      rintro e w6 ⟨rfl, g6⟩
      go_wp2_with fail
      refine (p6 _ ?_).mono ?_
      · exact hT.grown (by repeat (with_reducible (first | assumption | exact Grown.refl _ | apply Grown.drew | apply Grown.alloc | apply gdrewN | (refine gtrans ?_ (by assumption)))))
      rintro e w7 ⟨rfl, g7⟩
      go_wp2_with fail
      refine (p7 _).mono ?_
      rintro e w8 ⟨rfl, g8⟩
      go_wp2_with fail
      refine (p8 _).mono ?_
      rintro e w9 ⟨rfl, g9⟩
      go_wp2_with fail
      refine (p8 _).mono ?_
      rintro e w10 ⟨rfl, g10⟩
      go_wp2
      exact bodyPost_ret (v := .bool true) (by simp [results, Tryd.results4, go_sem] <;> simp only [*]) rfl ⟨rfl, (by repeat (with_reducible (first | assumption | exact Grown.refl _ | apply Grown.drew | apply Grown.alloc | apply gdrewN | (refine gtrans ?_ (by assumption)))))⟩
  · rcases q2 with ⟨rfl, rfl⟩ | ⟨rfl, rfl⟩
    · skip
      go_enter Tryd.func4, Tryd.ntmps4
      go_wp2_with fail
      refine (p1 _ ?_).mono ?_
      · exact hT.grown (by repeat (with_reducible (first | assumption | exact Grown.refl _ | apply Grown.drew | apply Grown.alloc | apply gdrewN | (refine gtrans ?_ (by assumption)))))
      rintro e w1 ⟨rfl, g1⟩
      go_wp2_with fail
      refine (p2 _ ?_).mono ?_
      · exact hT.grown (by repeat (with_reducible (first | assumption | exact Grown.refl _ | apply Grown.drew | apply Grown.alloc | apply gdrewN | (refine gtrans ?_ (by assumption)))))
      rintro e w2 ⟨rfl, g2⟩
      go_wp2_with fail
      refine (p3 _).mono ?_
      rintro e w3 ⟨rfl, g3⟩
      go_wp2_with fail
      refine (p4 _).mono ?_
      rintro e w4 ⟨rfl, g4⟩
      go_wp2_with fail
      refine (p4 _).mono ?_
      rintro e w5 ⟨rfl, g5⟩
      go_wp2_with fail
      refine (p5 _ ?_).mono ?_
      · exact hT.grown (by repeat (with_reducible (first | assumption | exact Grown.refl _ | apply Grown.drew | apply Grown.alloc | apply gdrewN | (refine gtrans ?_ (by assumption)))))
      rintro e w6 ⟨rfl, g6⟩
      go_wp2_with fail
      refine (p6 _ ?_).mono ?_
      · exact hT.grown (by repeat (with_reducible (first | assumption | exact Grown.refl _ | apply Grown.drew | apply Grown.alloc | apply gdrewN | (refine gtrans ?_ (by assumption)))))
      rintro e w7 ⟨rfl, g7⟩
      go_wp2_with fail
      refine (p7 _).mono ?_
      rintro e w8 ⟨rfl, g8⟩
      go_wp2_with fail
      refine (p8 _).mono ?_
      rintro e w9 ⟨rfl, g9⟩
      go_wp2_with fail
      refine (p8 _).mono ?_
      rintro e w10 ⟨rfl, g10⟩
      go_wp2
      exact bodyPost_ret (v := .bool true) (by simp [results, Tryd.results4, go_sem] <;> simp only [*]) rfl ⟨rfl, (by repeat (with_reducible (first | assumption | exact Grown.refl _ | apply Grown.drew | apply Grown.alloc | apply gdrewN | (refine gtrans ?_ (by assumption)))))⟩
    · skip
      go_enter Tryd.func4, Tryd.ntmps4
      go_wp2_with fail
      refine (p1 _ ?_).mono ?_
      · exact hT.grown (by repeat (with_reducible (first | assumption | exact Grown.refl _ | apply Grown.drew | apply Grown.alloc | apply gdrewN | (refine gtrans ?_ (by assumption)))))
      rintro e w1 ⟨rfl, g1⟩
      go_wp2_with fail
      refine (p2 _ ?_).mono ?_
      · exact hT.grown (by repeat (with_reducible (first | assumption | exact Grown.refl _ | apply Grown.drew | apply Grown.alloc | apply gdrewN | (refine gtrans ?_ (by assumption)))))
      rintro e w2 ⟨rfl, g2⟩
      go_wp2_with fail
      refine (p3 _).mono ?_
      rintro e w3 ⟨rfl, g3⟩
      go_wp2_with fail
      refine (p4 _).mono ?_
      rintro e w4 ⟨rfl, g4⟩
      go_wp2_with fail
      refine (p4 _).mono ?_
      rintro e w5 ⟨rfl, g5⟩
      go_wp2_with fail
      refine (p5 _ ?_).mono ?_
      · exact hT.grown (by repeat (with_reducible (first | assumption | exact Grown.refl _ | apply Grown.drew | apply Grown.alloc | apply gdrewN | (refine gtrans ?_ (by assumption)))))
      rintro e w6 ⟨rfl, g6⟩
      go_wp2_with fail
      refine (p6 _ ?_).mono ?_
      · exact hT.grown (by repeat (with_reducible (first | assumption | exact Grown.refl _ | apply Grown.drew | apply Grown.alloc | apply gdrewN | (refine gtrans ?_ (by assumption)))))
      rintro e w7 ⟨rfl, g7⟩
      go_wp2_with fail
      refine (p7 _).mono ?_
      rintro e w8 ⟨rfl, g8⟩
      go_wp2_with fail
      refine (p8 _).mono ?_
      rintro e w9 ⟨rfl, g9⟩
      go_wp2_with fail
      refine (p8 _).mono ?_
      rintro e w10 ⟨rfl, g10⟩
      go_wp2
      exact bodyPost_ret (v := .bool true) (by simp [results, Tryd.results4, go_sem] <;> simp only [*]) rfl ⟨rfl, (by repeat (with_reducible (first | assumption | exact Grown.refl _ | apply Grown.drew | apply Grown.alloc | apply gdrewN | (refine gtrans ?_ (by assumption)))))⟩

/-! ### THE ROW's STEP: WRITTEN OUT: LEAVE IT -/
set_option maxRecDepth 100000 in
theorem lifted (os : Os) (started : os.Started) (H : Type) (enc : TypeId × Value → H) :
    ReturnsInHanded {} Tryd.checked os 4 .any (fun w args => (Rows.fbitJoinsSpec.pre enc Tryd.prog Tryd.f4 [] false w args ∧ laidMetH Tryd.prog [("math/bits.deBruijn64tab", Rows.laid_math_bits_deBruijn64tab)] w) ∧ sizedMet enc Tryd.prog Tryd.f4 (OpenSpec.ofChange Rows.fbitJoinsSpec) false w args)
      (Rows.fbitJoinsSpec.post enc Tryd.prog Tryd.f4 false true false false) := by
  refine returnsInHanded_of_change_and (C := Tryd.checked) (X := fun w _ => laidMetH Tryd.prog [("math/bits.deBruijn64tab", Rows.laid_math_bits_deBruijn64tab)] w) (fun _ _ _ hh h => h.of_heap hh) own started (by kernel_rfl) Tryd.func4
    (ChangeSpec.witness_shaped (enc := enc) (C := Tryd.checked) (os := os) (X := fun w _ => laidMetH Tryd.prog [("math/bits.deBruijn64tab", Rows.laid_math_bits_deBruijn64tab)] w) false (World.doorLaid Tryd.prog 14 os) #[.bool false, .int .u64 0, .int .i64 0] 8 rfl (World.shaped_of_RefB (by kernel_rfl) (by kernel_rfl)) (by kernel_rfl) (by kernel_rfl) (by kernel_rfl) (door_met os _)) ?_
  intro W base args ds gs before hval0 hW _ _ hL _
  have hval : ∀ (j : Nat) t v, Tryd.f4.params[j]? = some t → args[j]? = some v → Value.okWide Tryd.prog W .any base t v := hval0
  have hW' := hW
  obtain ⟨p, q, hA0, hV, rfl, hfz, hnd⟩ := hW
  have hA : DataW.TrodAll enc Tryd.prog W 0 (fun _ => true) true Tryd.f4.params.toList args.toList ds p := hA0
  rw [Tryd.params4] at hA hval
  obtain ⟨v0, vs0, d0, ds0, p0, q0, hargs, rfl, rfl, h0, r0⟩ := trodAll_cons hA
  obtain ⟨v1, vs1, d1, ds1, p1, q1, rfl, rfl, rfl, h1, r1⟩ := trodAll_cons r0
  obtain ⟨v2, vs2, d2, ds2, p2, q2, rfl, rfl, rfl, h2, r2⟩ := trodAll_cons r1
  obtain ⟨rfl, rfl, rfl⟩ := trodAll_nil r2
  obtain rfl : args = #[v0, v1, v2] := by cases args; simp_all
  obtain ⟨rfl, rfl⟩ := trodVars_none hV
  obtain ⟨a0, rfl, rfl, rfl⟩ := open_bool Tryd.underlying4 (hval 0 4 v0 rfl rfl) h0
  obtain ⟨a1, rfl, rfl, rfl, w1⟩ := open_int Tryd.underlying30 (hval 1 30 v1 rfl rfl) h1
  obtain ⟨a2, rfl, rfl, rfl, w2⟩ := open_int Tryd.underlying3 (hval 2 3 v2 rfl rfl) h2
  clear hA0 hval0
  simp only [List.append_nil] at hW'
  refine (walk a0 a1 a2 w1 w2 W (tab_of_laid hL)).mono fun e W' ⟨he, hg⟩ => ?_
  subst he
  exact ⟨_, rfl, post_of_same (pa := []) (pv := []) hW' (fun _ _ _ => (trodAll_cons_mk (shut_bool Tryd.underlying4 _) trodAll_mk0)) (fun sp _ => (trodAll_cons_mk (shut_bool Tryd.underlying4 _) (trodAll_cons_mk (shut_int Tryd.underlying30 w1) (trodAll_cons_mk (shut_int Tryd.underlying3 w2) trodAll_mk0)))) (fun _ _ => rfl) rfl
    (hg.frame _) hg.2.1 (ok_one (by kernel_rfl) rfl (okWide_bool_mk Tryd.underlying4 _))⟩

theorem over : Rows.fbitJoinsRow.holds Tryd.pinned (OpenSpec.ofChange Rows.fbitJoinsSpec) :=
  OpenClaim.holds_of_wide 4 Tryd.f4 rfl rfl rfl rfl rfl rfl rfl ⟨rfl, rfl, rfl, rfl, rfl⟩ rfl rfl rfl rfl rfl (by kernel_rfl) Tryd.func4 (by kernel_rfl)
    (of_decide_eq_true (by kernel_rfl)) (by unfold Func.isWrapper; first | (rw [if_pos (by decide +kernel)]; kernel_rfl) | (rw [if_neg (by decide +kernel)]; exact ⟨rfl, rfl⟩))
    (fun os started H enc _ => lifted os started H enc)

/-- ████ THE STATEMENT ████ -/
theorem proved : Rows.FbitJoinsSaid :=
  over
end Go.Proofs.YtbdeppdjelcioaaDoor.fbitJoins

namespace Go.Proofs.YtbdeppdjelcioaaDoor
open Go
theorem fbitJoins_holds : Rows.FbitJoinsCardSaid :=
  Claim7.holds_tied_plain_at .later [] [.data] true (true, "61c395b8997f2029f0eec3313754324c5fd1ff456170c699e3ee3f1d5692dcff") false
    fbitJoins.proved (fun _ h => by cases h) (by kernel_rfl) (fun _ h => by cases h) fbitJoins_row_tie rfl ⟨rfl, rfl⟩ (by kernel_rfl) rfl
    (fun f fn hf hfn => by
      obtain rfl : f = 4 := Option.some.inj ((show Tryd.prog.funcNamed "verge/vergelaw1.FbitJoins" = some 4 by kernel_rfl).symm.trans hf) |>.symm
      obtain rfl : fn = Tryd.f4 := (Option.some.inj (Tryd.func4.symm.trans hfn)).symm
      exact ⟨by kernel_rfl, fun j t ht => by
        rw [Tryd.params4] at ht
        have hm : t ∈ [4, 30, 3] := by simpa using Array.mem_of_getElem? ht
        have hall : ([4, 30, 3].all fun u => !Tryd.prog.wantsStandIn u) = true := by kernel_rfl
        exact (show Tryd.prog.wantsStandIn t = false by simpa using List.all_eq_true.1 hall t hm)⟩)
    (by kernel_rfl)
end Go.Proofs.YtbdeppdjelcioaaDoor
