import Derived.Test.YtpmcdhhlhiobiacRows
import Derived.Test.YtpmcdhhlhiobiacM
import Derived.Test.YtpmcdhhlhiobiacM2
import Derived.Test.YtpmcdhhlhiobiacM4
import Derived.Test.YtpmcdhhlhiobiacA
import Derived.Test.YtpmcdhhlhiobiacP
import Derived.Test.YtpmcdhhlhiobiacN
import Derived.Test.YtpmcdhhlhiobiacYd
import Derived.Test.YtpmcdhhlhiobiacYs
import Derived.Test.YtpmcdhhlhiobiacYfar
import Derived.WalkKit
import Derived.ProofKit
import Derived.OpenShut
import Derived.Lib.SmallJoins
import Derived.RowKit3
import Derived.Deep.RegionHeld3
import Derived.Deep.QuietTactic
import Derived.BigQuiet
namespace Go.Proofs.Ytpmcdhhlhiobiac.fbitRanks
open Go.ChangeShapes Go.WideShapes Go.ChangeAt Go.RowKit Go.Joins
set_option linter.unusedVariables false

theorem own : ownKnob Try.prog.godebug = none := by kernel_rfl
theorem cellsTwo : Try.prog.cellsOf 42 = 4 := by kernel_rfl

set_option maxRecDepth 20000 in
set_option maxHeartbeats 6000000 in
theorem walk (a b c d : Int) (wa : (Lit.int .u64 a).wf = true) (wb : (Lit.int .u64 b).wf = true) (wc : (Lit.int .u32 c).wf = true) (wd : (Lit.int .u32 d).wf = true) (z : Int) (wz : (Lit.int .u64 z).wf = true) (w : World) :
    Calls Try.prog 6 #[.agg #[.int .u64 a, .int .u64 b, .int .u32 c, .int .u32 d], .int .u64 z] w fun e w' => e = .returned (.bool true) ∧ Grown w w' := by
  obtain ⟨xz, rfl⟩ := Int.eq_ofNat_of_zero_le (a := z) (by simp [Lit.wf, IntKind.min, IntKind.max, IntKind.bits, IntKind.signed] at wz; omega)
  have hz : xz < 18446744073709551616 := by simp [Lit.wf, IntKind.min, IntKind.max, IntKind.bits, IntKind.signed] at wz; omega
  clear wz
  obtain ⟨xa, rfl⟩ := Int.eq_ofNat_of_zero_le (a := a) (by simp [Lit.wf, IntKind.min, IntKind.max, IntKind.bits, IntKind.signed] at wa; omega)
  obtain ⟨na, ma, ha, rfl⟩ := exD xa (by simp [Lit.wf, IntKind.min, IntKind.max, IntKind.bits, IntKind.signed] at wa; omega)
  obtain ⟨xb, rfl⟩ := Int.eq_ofNat_of_zero_le (a := b) (by simp [Lit.wf, IntKind.min, IntKind.max, IntKind.bits, IntKind.signed] at wb; omega)
  obtain ⟨nb, mb, hb, rfl⟩ := exD xb (by simp [Lit.wf, IntKind.min, IntKind.max, IntKind.bits, IntKind.signed] at wb; omega)
  obtain ⟨xc, rfl⟩ := Int.eq_ofNat_of_zero_le (a := c) (by simp [Lit.wf, IntKind.min, IntKind.max, IntKind.bits, IntKind.signed] at wc; omega)
  obtain ⟨nc, mc, hc, rfl⟩ := exS xc (by simp [Lit.wf, IntKind.min, IntKind.max, IntKind.bits, IntKind.signed] at wc; omega)
  obtain ⟨xd, rfl⟩ := Int.eq_ofNat_of_zero_le (a := d) (by simp [Lit.wf, IntKind.min, IntKind.max, IntKind.bits, IntKind.signed] at wd; omega)
  obtain ⟨nd, md, hd, rfl⟩ := exS xd (by simp [Lit.wf, IntKind.min, IntKind.max, IntKind.bits, IntKind.signed] at wd; omega)
  clear wa wb wc wd
  obtain ⟨nz, mz, hmz, ez⟩ := exD xz hz
  obtain ⟨nu, mu, hmu, eu⟩ := exS (xz % 4294967296) (by omega)
  have p1 := ranked_d na nb nz ma mb mz ha hb hmz
  have p2 := ranked_far na nz nb ma mz mb ha hmz hb
  have p5 := ranked_s nc nd nu mc md mu hc hd hmu
  have hbc : wS nc mc < 4294967296 := by unfold wS; split <;> omega
  have hbd : wS nd md < 4294967296 := by unfold wS; split <;> omega
  obtain ⟨xa, hxa⟩ : ∃ x : Nat, x = wD na ma := ⟨_, rfl⟩
  obtain ⟨xb, hxb⟩ : ∃ x : Nat, x = wD nb mb := ⟨_, rfl⟩
  obtain ⟨xc, hxc⟩ : ∃ x : Nat, x = wS nc mc := ⟨_, rfl⟩
  obtain ⟨xd, hxd⟩ : ∃ x : Nat, x = wS nd md := ⟨_, rfl⟩
  rw [← hxa, ← hxb, ← hxc, ← hxd]
  rw [← hxc] at hbc
  rw [← hxd] at hbd
  have hc1 : IntKind.u64.wrap (xc : Int) = (xc : Int) := wrapU (by omega) (by omega)
  have hc2 : IntKind.u64.wrap (xd : Int) = (xd : Int) := wrapU (by omega) (by omega)
  have l1 := long_w xa
  have l2 := long_w xb
  have l3 := brief_w xc
  have l4 := brief_w xd
  obtain ⟨xu, hxu⟩ : ∃ x : Nat, x = xz % 4294967296 := ⟨_, rfl⟩
  have hcu : IntKind.u32.wrap (xz : Int) = (xu : Int) := by rw [IntKind.wrap_u32]; omega
  rw [← hxa, ← hxb, ← ez] at p1 p2
  rw [← hxc, ← hxd, ← eu, ← hxu] at p5
  have l5 := long_w xz
  have l6 := brief_w xu
  have q1 : (∀ w : World, Calls Try.prog 27 #[.float .f64 13830554455654793216, .float .f64 4607182418800017408] w fun e w' => e = .returned (.int .i64 (-1)) ∧ Grown w w') := by
    have h := order_d true false 4607182418800017408 4607182418800017408 (by omega) (by omega)
    rw [show cmpz (rkD true 4607182418800017408) (rkD false 4607182418800017408) = -1 from by decide +kernel] at h
    exact h
  have q2 : ∀ w : World, Calls Try.prog 28 #[.float .f64 0] w fun e w' => e = .returned (.float .f64 9223372036854775809) ∧ Grown w w' := by
    have h := dn_d false 0 (by omega) (by decide)
    rw [show fD (plz false 0 - 1) = 9223372036854775809 from by decide +kernel] at h
    exact h
  obtain ⟨T, hT⟩ : ∃ x : Nat, x = 9223372036854775809 := ⟨_, rfl⟩
  have q3 : (∀ w : World, Calls Try.prog 27 #[.float .f64 9223372036854775809, .float .f64 0] w fun e w' => e = .returned (.int .i64 (-1)) ∧ Grown w w') := by
    have h := order_d true false 1 0 (by omega) (by omega)
    rw [show cmpz (rkD true 1) (rkD false 0) = -1 from by decide +kernel] at h
    exact h
  have q4 : ∀ t : Nat, (∀ w : World, Calls Try.prog 27 #[.float .f64 9218868437227405312, .float .f64 ((Question.nanBits .f64 0 0).cut t)] w fun e w' => e = .returned (.int .i64 (-1)) ∧ Grown w w') := by
    intro t
    obtain ⟨nn, mm, k1, k2, k3⟩ := nanCut t
    have h := order_d false nn 9218868437227405312 mm (by omega) k2
    rw [show cmpz (rkD false 9218868437227405312) (rkD nn mm) = -1 from by
      apply cmpz_lt
      rw [show rkD false 9218868437227405312 = 9218868437227405312 from by decide +kernel]
      unfold rkD rkG; rw [if_pos k1]; decide, ← k3] at h
    exact h
  have v1 : ∀ w : World, (binOp .quo 22 (.float .f64 4607182418800017408) (.float .f64 0)).run Try.prog w = .ok (.float .f64 9218868437227405312) w := fun w => run_float_arith w .quo 22 .f64 _ _ _ (by decide +kernel)
  have v2 : ∀ w : World, (binOp .quo 22 (.float .f64 0) (.float .f64 0)).run Try.prog w = .ok (.float .f64 ((Question.nanBits .f64 0 0).cut (w.tape w.drawn (.nanBits .f64 0 0)))) w.drew := by
    intro w
    have hn : FloatKind.f64.format.div 0 0 = none := by decide +kernel
    simp [binOp, Op.floatArith, hn, Question.forced]
  rw [← hT] at q2 q3
  obtain ⟨J, hJ⟩ : ∃ x : Nat, x = 9218868437227405312 := ⟨_, rfl⟩
  rw [← hJ] at q4 v1
  have hg : ∃ g : Nat → Nat, ∀ t, (Question.nanBits .f64 0 0).cut t = g t := ⟨_, fun _ => rfl⟩
  obtain ⟨g, hg⟩ := hg
  simp only [hg] at q4 v2
  clear hxa hxb hxc hxd ha hb hc hd hbc hbd hc1 hc2 hz ez eu hmz hmu hxu hT hJ hg
  go_enter Try.func6, Try.ntmps6
  go_wp2_with fail
  refine (q1 _).mono ?_; rintro e w1 ⟨rfl, g1⟩
  have hk1 := keep4 (b := w.heap.size) (v0 := .int .u64 (xa : Int)) (v1 := .int .u64 (xb : Int)) (v2 := .int .u32 (xc : Int)) (v3 := .int .u32 (xd : Int)) (by first | assumption | (simp [go_sem, *]; done)) g1
  go_wp2_with fail
  refine (q2 _).mono ?_; rintro e w2 ⟨rfl, g2⟩
  have hk2 := keep4 (b := w.heap.size) (v0 := .int .u64 (xa : Int)) (v1 := .int .u64 (xb : Int)) (v2 := .int .u32 (xc : Int)) (v3 := .int .u32 (xd : Int)) (by first | assumption | (simp [go_sem, *]; done)) g2
  go_wp2_with fail
  refine (q3 _).mono ?_; rintro e w3 ⟨rfl, g3⟩
  have hk3 := keep4 (b := w.heap.size) (v0 := .int .u64 (xa : Int)) (v1 := .int .u64 (xb : Int)) (v2 := .int .u32 (xc : Int)) (v3 := .int .u32 (xd : Int)) (by first | assumption | (simp [go_sem, *]; done)) g3
  go_wp2_with fail
  refine (q4 _ _).mono ?_; rintro e w4 ⟨rfl, g4⟩
  have hk4 := keep4 (b := w.heap.size) (v0 := .int .u64 (xa : Int)) (v1 := .int .u64 (xb : Int)) (v2 := .int .u32 (xc : Int)) (v3 := .int .u32 (xd : Int)) (by first | assumption | (simp [go_sem, *]; done)) g4
  go_wp2_with fail
  go_region_held3 (fun w' => w'.cell? ⟨w.heap.size, 0, none⟩ = some (.int .u64 (xa : Int)) ∧ w'.cell? ⟨w.heap.size, 1, none⟩ = some (.int .u64 (xb : Int)) ∧ w'.cell? ⟨w.heap.size, 2, none⟩ = some (.int .u32 (xc : Int)) ∧ w'.cell? ⟨w.heap.size, 3, none⟩ = some (.int .u32 (xd : Int))) (first | exact keep4 (by assumption) (by assumption) | (simp [go_sem, *]; done)) (first
    | (go_at_call_of 17 (Value.int IntKind.u64 (xa : Int)); refine (l1 _).mono ?_; rintro e w' ⟨rfl, rfl⟩)
    | (go_at_call_of 17 (Value.int IntKind.u64 (xb : Int)); refine (l2 _).mono ?_; rintro e w' ⟨rfl, rfl⟩)
    | (go_at_call_of 19 (Value.int IntKind.u32 (xc : Int)); refine (l3 _).mono ?_; rintro e w' ⟨rfl, rfl⟩)
    | (go_at_call_of 19 (Value.int IntKind.u32 (xd : Int)); refine (l4 _).mono ?_; rintro e w' ⟨rfl, rfl⟩)
    | (go_at_call_of 17 (Value.int IntKind.u64 (xz : Int)); refine (l5 _).mono ?_; rintro e w' ⟨rfl, rfl⟩)
    | (go_at_call_of 19 (Value.int IntKind.u32 (xu : Int)); refine (l6 _).mono ?_; rintro e w' ⟨rfl, rfl⟩)
    | (go_at_call 29; refine (p1 _).mono ?_; rintro e w' ⟨rfl, gk⟩)
    | (go_at_call 30; refine (p5 _).mono ?_; rintro e w' ⟨rfl, gk⟩)
    | (go_at_call 31; refine (p2 _).mono ?_; rintro e w' ⟨rfl, gk⟩))
  go_wp2
  exact bodyPost_ret (v := .bool true) (by simp [results, Try.results6, go_sem] <;> simp only [*]) rfl ⟨rfl, (by repeat (with_reducible (first | assumption | exact Grown.refl _ | apply Grown.drew | apply Grown.alloc | apply gdrewN | (refine gtrans ?_ (by assumption)))))⟩

set_option maxRecDepth 100000 in
theorem lifted (os : Os) (started : os.Started) (H : Type) (enc : TypeId × Value → H) :
    ReturnsInHanded {} Try.checked os 6 .any (Rows.fbitRanksSpec.pre6 enc Try.prog Try.f6 Rows.fbitRanksRow.domain false) (Rows.fbitRanksSpec.post enc Try.prog Try.f6 false true false false) := by
  refine returnsInHanded_of_change (C := Try.checked) own started (by kernel_rfl) Try.func6
    (ChangeSpec.witness6 (enc := enc) (C := Try.checked) false ⟨#[], #[.agg #[.int .u64 0, .int .u64 0, .int .u32 0, .int .u32 0], .int .u64 0], []⟩ 8 (by kernel_rfl) (by kernel_rfl) (by kernel_rfl) (by kernel_rfl)) ?_
  intro W base args ds gs before hval0 hW hcnd _
  have hval : ∀ (j : Nat) t v, Try.f6.params[j]? = some t → args[j]? = some v → Value.okWide Try.prog W .any base t v := hval0
  have hW' := hW
  obtain ⟨p, q, hA0, hV, rfl, hfz, hnd⟩ := hW
  have hA : DataW.TrodAll enc Try.prog W 0 (fun _ => true) true Try.f6.params.toList args.toList ds p := hA0
  rw [Try.params6] at hA hval
  obtain ⟨v0, v1, d0, d1, p0, p1, rfl, rfl, rfl, h0, h1⟩ := trodAll_two hA
  obtain ⟨rfl, rfl⟩ := trodVars_none hV
  obtain ⟨c0, c1, c2, c3, y0, y1, y2, y3, m, rfl, rfl, rfl, hy0, hy1, hy2, hy3⟩ := open_agg4 Try.underlying42 (by kernel_rfl) cellsTwo (hval 0 42 v0 rfl rfl) h0
  obtain ⟨a, e0, rfl, wa⟩ := DataW.trod_int Try.underlying28 hy0
  obtain ⟨b, e1, rfl, wb⟩ := DataW.trod_int Try.underlying28 hy1
  obtain ⟨c, e2, rfl, wc⟩ := DataW.trod_int Try.underlying40 hy2
  obtain ⟨d, e3, rfl, wd⟩ := DataW.trod_int Try.underlying40 hy3
  simp at e0 e1 e2 e3
  subst e0 e1 e2 e3
  obtain ⟨z, rfl, rfl, rfl, wz⟩ := open_int Try.underlying28 (hval 1 28 v1 rfl rfl) h1
  clear hA0 hval0
  simp only [List.append_nil] at hW'
  have structReads : ∀ (W' : World) (sp : Nat → Bool), DataW.Trod enc Try.prog W' 0 sp true 42 (.agg #[.int .u64 a, .int .u64 b, .int .u32 c, .int .u32 d]) (.agg [.lit (.int .u64 a), .lit (.int .u64 b), .lit (.int .u32 c), .lit (.int .u32 d)]) [] := fun W' sp =>
    shut_agg4 (y0 := (.lit (.int .u64 a), [])) (y1 := (.lit (.int .u64 b), [])) (y2 := (.lit (.int .u32 c), [])) (y3 := (.lit (.int .u32 d), [])) Try.underlying42 (by kernel_rfl) cellsTwo ⟨1, by simp [DataW.trod, Try.underlying28, wa]⟩ ⟨1, by simp [DataW.trod, Try.underlying28, wb]⟩ ⟨1, by simp [DataW.trod, Try.underlying40, wc]⟩ ⟨1, by simp [DataW.trod, Try.underlying40, wd]⟩
  refine (walk a b c d wa wb wc wd z wz W).mono fun e W' ⟨he, hg⟩ => ?_
  subst he
  exact ⟨_, rfl, post_of_same (pa := []) (pv := []) hW' (fun _ _ _ => (trodAll_cons_mk (shut_bool Try.underlying4 _) trodAll_mk0)) (fun sp _ => (trodAll_cons_mk (structReads _ sp) (trodAll_cons_mk (shut_int Try.underlying28 wz) trodAll_mk0))) (fun _ _ => rfl) rfl
    (hg.frame _) hg.2.1 (ok_one (by kernel_rfl) rfl (okWide_bool_mk Try.underlying4 _))⟩

theorem over : Rows.fbitRanksRow.holds Try.pinned (OpenSpec.ofChange Rows.fbitRanksSpec) :=
  OpenClaim.holds_of_wide 6 Try.f6 rfl rfl rfl rfl rfl rfl rfl ⟨rfl, rfl, rfl, rfl, rfl⟩ rfl rfl rfl rfl rfl (by kernel_rfl) Try.func6 (by kernel_rfl)
    (of_decide_eq_true (by kernel_rfl)) (by unfold Func.isWrapper; first | (rw [if_pos (by decide +kernel)]; kernel_rfl) | (rw [if_neg (by decide +kernel)]; exact ⟨rfl, rfl⟩))
    (fun os started H enc _ => lifted os started H enc)

theorem proved : Rows.FbitRanksSaid :=
  over
end Go.Proofs.Ytpmcdhhlhiobiac.fbitRanks

namespace Go.Proofs.Ytpmcdhhlhiobiac
theorem fbitRanks_holds : Rows.FbitRanksSaid := fbitRanks.proved
end Go.Proofs.Ytpmcdhhlhiobiac
