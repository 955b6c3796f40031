import Derived.Test.YtkjcdhbhhiaaiaaRows
import Derived.WalkKit
import Derived.ProofKit
import Derived.OpenShut
import Derived.Test.YtkjcdhbhhiaaiaaM
import Derived.Test.YtkjcdhbhhiaaiaaA
import Derived.Test.YtkjcdhbhhiaaiaaN
import Derived.Test.YtkjcdhbhhiaaiaaUG
import Derived.Test.YtkjcdhbhhiaaiaaUd
import Derived.Test.YtkjcdhbhhiaaiaaUfar
import Derived.Test.YtkjcdhbhhiaaiaaUs
import Derived.Test.YtkjcdhbhhiaaiaaUnear
import Derived.Test.YtkjcdhbhhiaaiaaURD
import Derived.Test.YtkjcdhbhhiaaiaaURS
import Derived.Test.YtkjcdhbhhiaaiaaUP
import Derived.Deep.QuietTactic
import Derived.BigQuiet
import Derived.RowKit3
namespace Go.Proofs.Ytkjcdhbhhiaaiaa.fbitSplits
open Go.ChangeShapes Go.WideShapes Go.ChangeAt Go.RowKit
set_option linter.unusedVariables false      -- a walk need not use every 'w<i>' (that an integer argument fits its kind)

theorem packD (n : Bool) (m : Nat) (hm : m < 9223372036854775808) : ∃ (a o : Bool) (s x : Int),
    (∀ w : World, Calls Try.prog 23 #[.float .f64 (wD n m)] w fun e w' => e = .returned (.tuple #[.bool a, .int .u64 s, .int .i64 x, .bool o]) ∧ Grown w w') ∧
    (∀ w : World, Calls Try.prog 25 #[.float .f64 (wD n m)] w fun e w' => e = .returned (.tuple #[.bool a, .int .u64 s, .int .i64 x, .bool o]) ∧ Grown w w') ∧
    (∀ w : World, Calls Try.prog 22 #[.bool true, .int .u64 ((wD n m : Nat) : Int)] w fun e w' => e = .returned (.tuple #[.bool a, .int .u64 s, .int .i64 x, .bool o]) ∧ Grown w w') := by
  by_cases c : m < 9218868437227405312
  · exact ⟨_, _, _, _, split_d n m c, split_far n m c, rsplit_D n m c⟩
  · exact ⟨_, _, _, _, splitx_d n m (by omega) hm, splitx_far n m (by omega) hm, rsplitx_D n m (by omega) hm⟩

theorem packS (n : Bool) (m : Nat) (hm : m < 2147483648) : ∃ (a o : Bool) (s x : Int),
    (∀ w : World, Calls Try.prog 26 #[.float .f32 (wS n m)] w fun e w' => e = .returned (.tuple #[.bool a, .int .u64 s, .int .i64 x, .bool o]) ∧ Grown w w') ∧
    (∀ w : World, Calls Try.prog 28 #[.float .f32 (wS n m)] w fun e w' => e = .returned (.tuple #[.bool a, .int .u64 s, .int .i64 x, .bool o]) ∧ Grown w w') ∧
    (∀ w : World, Calls Try.prog 22 #[.bool false, .int .u64 ((wS n m : Nat) : Int)] w fun e w' => e = .returned (.tuple #[.bool a, .int .u64 s, .int .i64 x, .bool o]) ∧ Grown w w') := by
  by_cases c : m < 2139095040
  · exact ⟨_, _, _, _, split_s n m c, split_near n m c, rsplit_S n m c⟩
  · exact ⟨_, _, _, _, splitx_s n m (by omega) hm, splitx_near n m (by omega) hm, rsplitx_S n m (by omega) hm⟩

theorem own : ownKnob Try.prog.godebug = none := by kernel_rfl

/-! ### STEP 1: THE WALK: the Go text returns true. 'Grown w w'': the world has at most new blocks (Derived/RowKit3.lean). Part the cases AHEAD of 'go_enter' where a test parts the walk; take each callee by a contract of your own. -/
theorem walk (a0 : Int) (a1 : Int) (w0 : (Lit.int .u64 a0).wf = true) (w1 : (Lit.int .u32 a1).wf = true) (w : World) :
    Calls Try.prog 3 #[.int .u64 a0, .int .u32 a1] w fun e w' => e = .returned (.bool true) ∧ Grown w w' := by
  obtain ⟨x, rfl⟩ := Int.eq_ofNat_of_zero_le (a := a0) (by simp [Lit.wf, IntKind.min, IntKind.max, IntKind.bits, IntKind.signed] at w0; omega)
  obtain ⟨y, rfl⟩ := Int.eq_ofNat_of_zero_le (a := a1) (by simp [Lit.wf, IntKind.min, IntKind.max, IntKind.bits, IntKind.signed] at w1; omega)
  obtain ⟨n, m, hm, rfl⟩ := exD x (by simp [Lit.wf, IntKind.min, IntKind.max, IntKind.bits, IntKind.signed] at w0; omega)
  obtain ⟨n', m', hm', rfl⟩ := exS y (by simp [Lit.wf, IntKind.min, IntKind.max, IntKind.bits, IntKind.signed] at w1; omega)
  clear w0 w1
  obtain ⟨a1, o1, s1, x1, t1, t2, t3⟩ := packD n m hm
  obtain ⟨a2, o2, s2, x2, t4, t5, t6⟩ := packS n' m' hm'
  have hb : wS n' m' < 4294967296 := by unfold wS; split <;> omega
  obtain ⟨x, hx⟩ : ∃ x : Nat, x = wD n m := ⟨_, rfl⟩
  obtain ⟨y, hy⟩ : ∃ y : Nat, y = wS n' m' := ⟨_, rfl⟩
  rw [← hx] at t1 t2 t3 ⊢
  rw [← hy] at t4 t5 t6 hb ⊢
  have p1 := split64_ x a1 o1 s1 x1 t1
  have p2 := splitFar_ x a1 o1 s1 x1 t2
  have q1 := told_ true (x : Int) a1 o1 s1 x1 t3
  have p3 := split32_ y a2 o2 s2 x2 t4
  have p4 := splitNear_ y a2 o2 s2 x2 t5
  have q2 := told_ false (y : Int) a2 o2 s2 x2 t6
  have hc : IntKind.u64.wrap (y : Int) = (y : Int) := wrapU (by omega) (by omega)
  clear hx hy hm hm' hb t1 t2 t3 t4 t5 t6
  go_enter Try.func3, Try.ntmps3
  go_wp2_with fail
  refine (q1 _).mono ?_; rintro e w1 ⟨rfl, g1⟩
  go_wp2_with fail
  refine (q2 _).mono ?_; rintro e w2 ⟨rfl, g2⟩
  have y0 := gkeep g2 (b := w1.heap.size) (o := 0) (v := .bool a1) (by simp [go_sem])
  have y1 := gkeep g2 (b := w1.heap.size) (o := 1) (v := .int .u64 s1) (by simp [go_sem])
  have y2 := gkeep g2 (b := w1.heap.size) (o := 2) (v := .int .i64 x1) (by simp [go_sem])
  have y3 := gkeep g2 (b := w1.heap.size) (o := 3) (v := .bool o1) (by simp [go_sem])
  go_wp2_with fail
  refine wp_region_grow (by kernel_rfl) (by kernel_rfl) (fun ι _ G hG hall => ?_)
  have c0 : ∀ n, (G n).cell? ⟨w1.heap.size, 0, none⟩ = some (.bool a1) := fun n => gkeep (hG n) (by first | exact gkeep (Grown.alloc (Grown.refl _) _ _) (by assumption) | (simp [go_sem]; done) | (simp [go_sem, World.cell?_alloc_past]; done) | (simp [go_sem, *]; done))
  have c1 : ∀ n, (G n).cell? ⟨w1.heap.size, 1, none⟩ = some (.int .u64 s1) := fun n => gkeep (hG n) (by first | exact gkeep (Grown.alloc (Grown.refl _) _ _) (by assumption) | (simp [go_sem]; done) | (simp [go_sem, World.cell?_alloc_past]; done) | (simp [go_sem, *]; done))
  have c2 : ∀ n, (G n).cell? ⟨w1.heap.size, 2, none⟩ = some (.int .i64 x1) := fun n => gkeep (hG n) (by first | exact gkeep (Grown.alloc (Grown.refl _) _ _) (by assumption) | (simp [go_sem]; done) | (simp [go_sem, World.cell?_alloc_past]; done) | (simp [go_sem, *]; done))
  have c3 : ∀ n, (G n).cell? ⟨w1.heap.size, 3, none⟩ = some (.bool o1) := fun n => gkeep (hG n) (by first | exact gkeep (Grown.alloc (Grown.refl _) _ _) (by assumption) | (simp [go_sem]; done) | (simp [go_sem, World.cell?_alloc_past]; done) | (simp [go_sem, *]; done))
  have c4 : ∀ n, (G n).cell? ⟨w2.heap.size, 0, none⟩ = some (.bool a2) := fun n => gkeep (hG n) (by first | exact gkeep (Grown.alloc (Grown.refl _) _ _) (by assumption) | (simp [go_sem]; done) | (simp [go_sem, World.cell?_alloc_past]; done) | (simp [go_sem, *]; done))
  have c5 : ∀ n, (G n).cell? ⟨w2.heap.size, 1, none⟩ = some (.int .u64 s2) := fun n => gkeep (hG n) (by first | exact gkeep (Grown.alloc (Grown.refl _) _ _) (by assumption) | (simp [go_sem]; done) | (simp [go_sem, World.cell?_alloc_past]; done) | (simp [go_sem, *]; done))
  have c6 : ∀ n, (G n).cell? ⟨w2.heap.size, 2, none⟩ = some (.int .i64 x2) := fun n => gkeep (hG n) (by first | exact gkeep (Grown.alloc (Grown.refl _) _ _) (by assumption) | (simp [go_sem]; done) | (simp [go_sem, World.cell?_alloc_past]; done) | (simp [go_sem, *]; done))
  have c7 : ∀ n, (G n).cell? ⟨w2.heap.size, 3, none⟩ = some (.bool o2) := fun n => gkeep (hG n) (by first | exact gkeep (Grown.alloc (Grown.refl _) _ _) (by assumption) | (simp [go_sem]; done) | (simp [go_sem, World.cell?_alloc_past]; done) | (simp [go_sem, *]; done))
  repeat (go_big_quiet_step (first | (go_at_call 7; exact (p1 _).mono (fun e w' h => ⟨h.1, hall _ (gtrans (hG _) h.2)⟩)) | (go_at_call 8; exact (p2 _).mono (fun e w' h => ⟨h.1, hall _ (gtrans (hG _) h.2)⟩)) | (go_at_call 9; exact (p3 _).mono (fun e w' h => ⟨h.1, hall _ (gtrans (hG _) h.2)⟩)) | (go_at_call 10; exact (p4 _).mono (fun e w' h => ⟨h.1, hall _ (gtrans (hG _) h.2)⟩))))
  refine wpQuiet_nil ?_
  rintro _ ⟨nq, rfl⟩
  have gq := hG nq
  clear c0 c1 c2 c3 c4 c5 c6 c7 hall
  go_wp2
  exact bodyPost_ret (v := .bool true) (by simp [results, Try.results3, go_sem] <;> simp only [*]) rfl ⟨rfl, (by repeat (with_reducible (first | assumption | exact Grown.refl _ | apply Grown.drew | apply Grown.alloc | apply gdrewN | (refine gtrans ?_ (by assumption)))))⟩

/-! ### THE ROW's STEP: WRITTEN OUT: LEAVE IT -/
set_option maxRecDepth 100000 in
theorem lifted (os : Os) (started : os.Started) (H : Type) (enc : TypeId × Value → H) :
    ReturnsInHanded {} Try.checked os 3 .any (Rows.fbitSplitsSpec.pre6 enc Try.prog Try.f3 Rows.fbitSplitsRow.domain false) (Rows.fbitSplitsSpec.post enc Try.prog Try.f3 false true false false) := by
  refine returnsInHanded_of_change (C := Try.checked) own started (by kernel_rfl) Try.func3
    (ChangeSpec.witness6 (enc := enc) (C := Try.checked) false ⟨#[], #[.int .u64 0, .int .u32 0], []⟩ 8 (by kernel_rfl) (by kernel_rfl) (by kernel_rfl) (by kernel_rfl)) ?_
  intro W base args ds gs before hval0 hW hcnd _
  have hval : ∀ (j : Nat) t v, Try.f3.params[j]? = some t → args[j]? = some v → Value.okWide Try.prog W .any base t v := hval0
  have hW' := hW
  obtain ⟨p, q, hA0, hV, rfl, hfz, hnd⟩ := hW
  have hA : DataW.TrodAll enc Try.prog W 0 (fun _ => true) true Try.f3.params.toList args.toList ds p := hA0
  rw [Try.params3] at hA hval
  obtain ⟨v0, vs0, d0, ds0, p0, q0, hargs, rfl, rfl, h0, r0⟩ := trodAll_cons hA
  obtain ⟨v1, vs1, d1, ds1, p1, q1, rfl, rfl, rfl, h1, r1⟩ := trodAll_cons r0
  obtain ⟨rfl, rfl, rfl⟩ := trodAll_nil r1
  obtain rfl : args = #[v0, v1] := by cases args; simp_all
  obtain ⟨rfl, rfl⟩ := trodVars_none hV
  obtain ⟨a0, rfl, rfl, rfl, w0⟩ := open_int Try.underlying22 (hval 0 22 v0 rfl rfl) h0
  obtain ⟨a1, rfl, rfl, rfl, w1⟩ := open_int Try.underlying23 (hval 1 23 v1 rfl rfl) h1
  clear hA0 hval0
  simp only [List.append_nil] at hW'
  refine (walk a0 a1 w0 w1 W).mono fun e W' ⟨he, hg⟩ => ?_
  subst he
  exact ⟨_, rfl, post_of_same (pa := []) (pv := []) hW' (fun _ _ _ => (trodAll_cons_mk (shut_bool Try.underlying4 _) trodAll_mk0)) (fun sp _ => (trodAll_cons_mk (shut_int Try.underlying22 w0) (trodAll_cons_mk (shut_int Try.underlying23 w1) trodAll_mk0))) (fun _ _ => rfl) rfl
    (hg.frame _) hg.2.1 (ok_one (by kernel_rfl) rfl (okWide_bool_mk Try.underlying4 _))⟩

theorem over : Rows.fbitSplitsRow.holds Try.pinned (OpenSpec.ofChange Rows.fbitSplitsSpec) :=
  OpenClaim.holds_of_wide 3 Try.f3 rfl rfl rfl rfl rfl rfl rfl ⟨rfl, rfl, rfl, rfl, rfl⟩ rfl rfl rfl rfl rfl (by kernel_rfl) Try.func3 (by kernel_rfl)
    (of_decide_eq_true (by kernel_rfl)) (by unfold Func.isWrapper; first | (rw [if_pos (by decide +kernel)]; kernel_rfl) | (rw [if_neg (by decide +kernel)]; exact ⟨rfl, rfl⟩))
    (fun os started H enc _ => lifted os started H enc)

/-- ████ THE STATEMENT ████ -/
theorem proved : Rows.FbitSplitsSaid :=
  over
end Go.Proofs.Ytkjcdhbhhiaaiaa.fbitSplits

namespace Go.Proofs.Ytkjcdhbhhiaaiaa
theorem fbitSplits_holds : Rows.FbitSplitsSaid := fbitSplits.proved
end Go.Proofs.Ytkjcdhbhhiaaiaa
