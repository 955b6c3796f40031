import Derived.Test.YtpmcdhhlhiobiadRows
import Derived.Test.YtpmcdhhlhiobiadM
import Derived.Test.YtpmcdhhlhiobiadM2
import Derived.Test.YtpmcdhhlhiobiadM3
import Derived.Test.YtpmcdhhlhiobiadA
import Derived.Test.YtpmcdhhlhiobiadP
import Derived.Test.YtpmcdhhlhiobiadN
import Derived.Test.YtpmcdhhlhiobiadTd
import Derived.Test.YtpmcdhhlhiobiadTs
import Derived.Test.YtpmcdhhlhiobiadTnear
import Derived.Test.YtpmcdhhlhiobiadXd
import Derived.Test.YtpmcdhhlhiobiadXs
import Derived.Test.YtpmcdhhlhiobiadXnear
import Derived.WalkKit
import Derived.ProofKit
import Derived.OpenShut
import Derived.Lib.SmallJoins
import Derived.RowKit3
import Derived.Deep.RegionHeld3
import Derived.Deep.QuietTactic
import Derived.BigQuiet
namespace Go.Proofs.Ytpmcdhhlhiobiad.fbitAdds
open Go.ChangeShapes Go.WideShapes Go.ChangeAt Go.RowKit Go.Joins
set_option linter.unusedVariables false

theorem own : ownKnob Try.prog.godebug = none := by kernel_rfl
theorem cellsTwo : Try.prog.cellsOf 25 = 4 := by kernel_rfl

set_option maxRecDepth 20000 in
set_option maxHeartbeats 6000000 in
theorem walk (a b c d : Int) (wa : (Lit.int .u64 a).wf = true) (wb : (Lit.int .u64 b).wf = true) (wc : (Lit.int .u32 c).wf = true) (wd : (Lit.int .u32 d).wf = true) (z : Int) (wz : (Lit.int .u64 z).wf = true) (w : World) :
    Calls Try.prog 3 #[.agg #[.int .u64 a, .int .u64 b, .int .u32 c, .int .u32 d], .int .u64 z] w fun e w' => e = .returned (.bool true) ∧ Grown w w' := by
  obtain ⟨xz, rfl⟩ := Int.eq_ofNat_of_zero_le (a := z) (by simp [Lit.wf, IntKind.min, IntKind.max, IntKind.bits, IntKind.signed] at wz; omega)
  have hz : xz < 18446744073709551616 := by simp [Lit.wf, IntKind.min, IntKind.max, IntKind.bits, IntKind.signed] at wz; omega
  clear wz
  obtain ⟨xa, rfl⟩ := Int.eq_ofNat_of_zero_le (a := a) (by simp [Lit.wf, IntKind.min, IntKind.max, IntKind.bits, IntKind.signed] at wa; omega)
  obtain ⟨na, ma, ha, rfl⟩ := exD xa (by simp [Lit.wf, IntKind.min, IntKind.max, IntKind.bits, IntKind.signed] at wa; omega)
  obtain ⟨xb, rfl⟩ := Int.eq_ofNat_of_zero_le (a := b) (by simp [Lit.wf, IntKind.min, IntKind.max, IntKind.bits, IntKind.signed] at wb; omega)
  obtain ⟨nb, mb, hb, rfl⟩ := exD xb (by simp [Lit.wf, IntKind.min, IntKind.max, IntKind.bits, IntKind.signed] at wb; omega)
  obtain ⟨xc, rfl⟩ := Int.eq_ofNat_of_zero_le (a := c) (by simp [Lit.wf, IntKind.min, IntKind.max, IntKind.bits, IntKind.signed] at wc; omega)
  obtain ⟨nc, mc, hc, rfl⟩ := exS xc (by simp [Lit.wf, IntKind.min, IntKind.max, IntKind.bits, IntKind.signed] at wc; omega)
  obtain ⟨xd, rfl⟩ := Int.eq_ofNat_of_zero_le (a := d) (by simp [Lit.wf, IntKind.min, IntKind.max, IntKind.bits, IntKind.signed] at wd; omega)
  obtain ⟨nd, md, hd, rfl⟩ := exS xd (by simp [Lit.wf, IntKind.min, IntKind.max, IntKind.bits, IntKind.signed] at wd; omega)
  clear wa wb wc wd
  obtain ⟨nz, mz, hmz, ez⟩ := exD xz hz
  obtain ⟨nu, mu, hmu, eu⟩ := exS (xz % 4294967296) (by omega)
  have p1 := measured_d na nb nz ma mb mz ha hb hmz
  have p5 := measured_s nc nd nu mc md mu hc hd hmu
  have p6 := measured_near nc nd nu mc md mu hc hd hmu
  have hbc : wS nc mc < 4294967296 := by unfold wS; split <;> omega
  have hbd : wS nd md < 4294967296 := by unfold wS; split <;> omega
  obtain ⟨xa, hxa⟩ : ∃ x : Nat, x = wD na ma := ⟨_, rfl⟩
  obtain ⟨xb, hxb⟩ : ∃ x : Nat, x = wD nb mb := ⟨_, rfl⟩
  obtain ⟨xc, hxc⟩ : ∃ x : Nat, x = wS nc mc := ⟨_, rfl⟩
  obtain ⟨xd, hxd⟩ : ∃ x : Nat, x = wS nd md := ⟨_, rfl⟩
  rw [← hxa, ← hxb, ← hxc, ← hxd]
  rw [← hxc] at hbc
  rw [← hxd] at hbd
  have hc1 : IntKind.u64.wrap (xc : Int) = (xc : Int) := wrapU (by omega) (by omega)
  have hc2 : IntKind.u64.wrap (xd : Int) = (xd : Int) := wrapU (by omega) (by omega)
  have l1 := long_w xa
  have l2 := long_w xb
  have l3 := brief_w xc
  have l4 := brief_w xd
  obtain ⟨xu, hxu⟩ : ∃ x : Nat, x = xz % 4294967296 := ⟨_, rfl⟩
  have hcu : IntKind.u32.wrap (xz : Int) = (xu : Int) := by rw [IntKind.wrap_u32]; omega
  rw [← hxa, ← hxb, ← ez] at p1
  rw [← hxc, ← hxd, ← eu, ← hxu] at p5 p6
  have l5 := long_w xz
  have l6 := brief_w xu
  have p0 : ∀ w : World, Calls Try.prog 5 #[.float .f64 4607182418800017408, .float .f64 4611686018427387904] w fun e w' => e = .returned (.tuple #[.int .i64 4503599627370496, .bool true]) ∧ Grown w w' := by
    have h := steps_d false false 4607182418800017408 4611686018427387904 (by omega) (by omega)
    rw [show sti 9218868437227405312 false 4607182418800017408 false 4611686018427387904 = 4503599627370496 from by decide +kernel, show stb 9218868437227405312 false 4607182418800017408 false 4611686018427387904 = true from by decide +kernel] at h
    exact h
  obtain ⟨O, p0, d0⟩ : ∃ O : Int, (∀ w : World, Calls Try.prog 5 #[.float .f64 4607182418800017408, .float .f64 4611686018427387904] w fun e w' => e = .returned (.tuple #[.int .i64 O, .bool true]) ∧ Grown w w') ∧ ¬ (O ≤ 0) := ⟨_, p0, by omega⟩
  clear hxa hxb hxc hxd ha hb hc hd hbc hbd hc1 hc2 hz ez eu hmz hmu hxu
  go_enter Try.func3, Try.ntmps3
  go_wp2_with fail
  refine (p0 _).mono ?_; rintro e w2 ⟨rfl, g2⟩
  have hk := keep4 (b := w.heap.size) (v0 := .int .u64 (xa : Int)) (v1 := .int .u64 (xb : Int)) (v2 := .int .u32 (xc : Int)) (v3 := .int .u32 (xd : Int)) (by first | assumption | (simp [go_sem, *]; done)) g2
  go_wp2_with fail
  go_region_held3 (fun w' => w'.cell? ⟨w.heap.size, 0, none⟩ = some (.int .u64 (xa : Int)) ∧ w'.cell? ⟨w.heap.size, 1, none⟩ = some (.int .u64 (xb : Int)) ∧ w'.cell? ⟨w.heap.size, 2, none⟩ = some (.int .u32 (xc : Int)) ∧ w'.cell? ⟨w.heap.size, 3, none⟩ = some (.int .u32 (xd : Int))) (first | exact keep4 (by assumption) (by assumption) | (simp [go_sem, *]; done)) (first
    | (go_at_call_of 7 (Value.int IntKind.u64 (xa : Int)); refine (l1 _).mono ?_; rintro e w' ⟨rfl, rfl⟩)
    | (go_at_call_of 7 (Value.int IntKind.u64 (xb : Int)); refine (l2 _).mono ?_; rintro e w' ⟨rfl, rfl⟩)
    | (go_at_call_of 9 (Value.int IntKind.u32 (xc : Int)); refine (l3 _).mono ?_; rintro e w' ⟨rfl, rfl⟩)
    | (go_at_call_of 9 (Value.int IntKind.u32 (xd : Int)); refine (l4 _).mono ?_; rintro e w' ⟨rfl, rfl⟩)
    | (go_at_call_of 7 (Value.int IntKind.u64 (xz : Int)); refine (l5 _).mono ?_; rintro e w' ⟨rfl, rfl⟩)
    | (go_at_call_of 9 (Value.int IntKind.u32 (xu : Int)); refine (l6 _).mono ?_; rintro e w' ⟨rfl, rfl⟩)
    | (go_at_call 6; refine (p1 _).mono ?_; rintro e w' ⟨rfl, gk⟩)
    | (go_at_call 8; refine (p5 _).mono ?_; rintro e w' ⟨rfl, gk⟩)
    | (go_at_call 10; refine (p6 _).mono ?_; rintro e w' ⟨rfl, gk⟩))
  go_wp2
  exact bodyPost_ret (v := .bool true) (by simp [results, Try.results3, go_sem] <;> simp only [*]) rfl ⟨rfl, (by repeat (with_reducible (first | assumption | exact Grown.refl _ | apply Grown.drew | apply Grown.alloc | apply gdrewN | (refine gtrans ?_ (by assumption)))))⟩

set_option maxRecDepth 100000 in
theorem lifted (os : Os) (started : os.Started) (H : Type) (enc : TypeId × Value → H) :
    ReturnsInHanded {} Try.checked os 3 .any (Rows.fbitAddsSpec.pre6 enc Try.prog Try.f3 Rows.fbitAddsRow.domain false) (Rows.fbitAddsSpec.post enc Try.prog Try.f3 false true false false) := by
  refine returnsInHanded_of_change (C := Try.checked) own started (by kernel_rfl) Try.func3
    (ChangeSpec.witness6 (enc := enc) (C := Try.checked) false ⟨#[], #[.agg #[.int .u64 0, .int .u64 0, .int .u32 0, .int .u32 0], .int .u64 0], []⟩ 8 (by kernel_rfl) (by kernel_rfl) (by kernel_rfl) (by kernel_rfl)) ?_
  intro W base args ds gs before hval0 hW hcnd _
  have hval : ∀ (j : Nat) t v, Try.f3.params[j]? = some t → args[j]? = some v → Value.okWide Try.prog W .any base t v := hval0
  have hW' := hW
  obtain ⟨p, q, hA0, hV, rfl, hfz, hnd⟩ := hW
  have hA : DataW.TrodAll enc Try.prog W 0 (fun _ => true) true Try.f3.params.toList args.toList ds p := hA0
  rw [Try.params3] at hA hval
  obtain ⟨v0, v1, d0, d1, p0, p1, rfl, rfl, rfl, h0, h1⟩ := trodAll_two hA
  obtain ⟨rfl, rfl⟩ := trodVars_none hV
  obtain ⟨c0, c1, c2, c3, y0, y1, y2, y3, m, rfl, rfl, rfl, hy0, hy1, hy2, hy3⟩ := open_agg4 Try.underlying25 (by kernel_rfl) cellsTwo (hval 0 25 v0 rfl rfl) h0
  obtain ⟨a, e0, rfl, wa⟩ := DataW.trod_int Try.underlying22 hy0
  obtain ⟨b, e1, rfl, wb⟩ := DataW.trod_int Try.underlying22 hy1
  obtain ⟨c, e2, rfl, wc⟩ := DataW.trod_int Try.underlying23 hy2
  obtain ⟨d, e3, rfl, wd⟩ := DataW.trod_int Try.underlying23 hy3
  simp at e0 e1 e2 e3
  subst e0 e1 e2 e3
  obtain ⟨z, rfl, rfl, rfl, wz⟩ := open_int Try.underlying22 (hval 1 22 v1 rfl rfl) h1
  clear hA0 hval0
  simp only [List.append_nil] at hW'
  have structReads : ∀ (W' : World) (sp : Nat → Bool), DataW.Trod enc Try.prog W' 0 sp true 25 (.agg #[.int .u64 a, .int .u64 b, .int .u32 c, .int .u32 d]) (.agg [.lit (.int .u64 a), .lit (.int .u64 b), .lit (.int .u32 c), .lit (.int .u32 d)]) [] := fun W' sp =>
    shut_agg4 (y0 := (.lit (.int .u64 a), [])) (y1 := (.lit (.int .u64 b), [])) (y2 := (.lit (.int .u32 c), [])) (y3 := (.lit (.int .u32 d), [])) Try.underlying25 (by kernel_rfl) cellsTwo ⟨1, by simp [DataW.trod, Try.underlying22, wa]⟩ ⟨1, by simp [DataW.trod, Try.underlying22, wb]⟩ ⟨1, by simp [DataW.trod, Try.underlying23, wc]⟩ ⟨1, by simp [DataW.trod, Try.underlying23, wd]⟩
  refine (walk a b c d wa wb wc wd z wz W).mono fun e W' ⟨he, hg⟩ => ?_
  subst he
  exact ⟨_, rfl, post_of_same (pa := []) (pv := []) hW' (fun _ _ _ => (trodAll_cons_mk (shut_bool Try.underlying4 _) trodAll_mk0)) (fun sp _ => (trodAll_cons_mk (structReads _ sp) (trodAll_cons_mk (shut_int Try.underlying22 wz) trodAll_mk0))) (fun _ _ => rfl) rfl
    (hg.frame _) hg.2.1 (ok_one (by kernel_rfl) rfl (okWide_bool_mk Try.underlying4 _))⟩

theorem over : Rows.fbitAddsRow.holds Try.pinned (OpenSpec.ofChange Rows.fbitAddsSpec) :=
  OpenClaim.holds_of_wide 3 Try.f3 rfl rfl rfl rfl rfl rfl rfl ⟨rfl, rfl, rfl, rfl, rfl⟩ rfl rfl rfl rfl rfl (by kernel_rfl) Try.func3 (by kernel_rfl)
    (of_decide_eq_true (by kernel_rfl)) (by unfold Func.isWrapper; first | (rw [if_pos (by decide +kernel)]; kernel_rfl) | (rw [if_neg (by decide +kernel)]; exact ⟨rfl, rfl⟩))
    (fun os started H enc _ => lifted os started H enc)

theorem proved : Rows.FbitAddsSaid :=
  over
end Go.Proofs.Ytpmcdhhlhiobiad.fbitAdds

namespace Go.Proofs.Ytpmcdhhlhiobiad
theorem fbitAdds_holds : Rows.FbitAddsSaid := fbitAdds.proved
end Go.Proofs.Ytpmcdhhlhiobiad
