import Derived.Test.YthajkngngdnidaaProg
import Derived.Test.YthajkngngdnidaaKXA0
import Derived.Test.YthajkngngdnidaaKQM
import Derived.Test.YthajkngngdnidaaKQA
import Derived.Test.YthajkngngdnidaaKXQU
import Derived.Test.YthajkngngdnidaaKEM
import Derived.Test.YthajkngngdnidaaKEN
import Derived.Test.YthajkngngdnidaaKEA
import Derived.Test.YthajkngngdnidaaKEB
import Derived.Test.YthajkngngdnidaaKEH
import Derived.Test.YthajkngngdnidaaKEK
import Derived.Test.YthajkngngdnidaaKEO
import Derived.Test.YthajkngngdnidaaKER
import Derived.Test.YthajkngngdnidaaKES
import Derived.Test.YthajkngngdnidaaKNRv
import Derived.Test.YthajkngngdnidaaKNRm
import Derived.Test.YthajkngngdnidaaKNRa
import Derived.Test.YthajkngngdnidaaKNRb
import Derived.Test.YthajkngngdnidaaKNRc
import Derived.Test.YthajkngngdnidaaKNRd
import Derived.Test.YthajkngngdnidaaKNRe
import Derived.Test.YthajkngngdnidaaKNRf
import Derived.Test.YthajkngngdnidaaKNRg
import Derived.Test.YthajkngngdnidaaKNRh
import Derived.Test.YthajkngngdnidaaKNRi
import Derived.Test.YthajkngngdnidaaKNRj
import Derived.Test.YthajkngngdnidaaKNCo
import Derived.Test.YthajkngngdnidaaKNCm
import Derived.Test.YthajkngngdnidaaKNCa
import Derived.Test.YthajkngngdnidaaKNCb
import Derived.Test.YthajkngngdnidaaKNCc
import Derived.Test.YthajkngngdnidaaKNCd
import Derived.Test.YthajkngngdnidaaKNCe
import Derived.Test.YthajkngngdnidaaKNCf
import Derived.Test.YthajkngngdnidaaKNCg
import Derived.Test.YthajkngngdnidaaKNCh
import Derived.Test.YthajkngngdnidaaKNCi
import Derived.Test.YthajkngngdnidaaKNCj
import Derived.Test.YthajkngngdnidaaKNKa
import Derived.WalkKit
import Derived.ProofKit
import Derived.RowKit3
import Derived.WalkSpells
import Derived.StillTactics
import Derived.Deep.QuietTactic
import Derived.BigQuiet
import Derived.Below
import Derived.Deep.OwnRows
import Derived.OwnWalk
import Derived.Laws.BitsAllLaws
import Derived.Laws.Slices
import Derived.Laws.Bits64b
import Derived.Laws.FloatArith
import Derived.Deep.RegionHeld3
import Derived.Deep.CutRange
import Derived.Deep.DeepCutAuto
namespace Go.Proofs.Ythajkngngdnidaa
open Go.RowKit
set_option maxRecDepth 20000 in
set_option maxHeartbeats 2000000 in
theorem memberA_ (v a b L H : Nat) (hx : ∀ w : World, Calls Try.prog 45 #[.agg #[.float .f64 a, .float .f64 b]] w fun e w' => e = .returned (.agg #[.float .f64 L, .float .f64 H]) ∧ Kp w w') (E1 E2 E3 : Bool) (i1 : ∀ w : World, Calls Try.prog 47 #[.float .f64 v, .int .i64 0] w fun e w' => e = .returned (.bool E1) ∧ w' = w) (t1 : (FloatKind.f64.format.order L v == some Ordering.lt || FloatKind.f64.format.order L v == some Ordering.eq) = E2) (t2 : (FloatKind.f64.format.order v H == some Ordering.lt || FloatKind.f64.format.order v H == some Ordering.eq) = E3) (w : World) : Calls Try.prog 19 #[.float .f64 v, .agg #[.float .f64 a, .float .f64 b]] w fun e w' => e = .returned (.bool (!E1 && (E2 && E3))) ∧ Kp w w' := by
  cases E1 <;> cases E2 <;> cases E3
  all_goals (
    go_enter Try.func19, Try.ntmps19
    go_wp2_with (first | (go_at_call 45; refine (hx _).mono ?_; rintro e w1 ⟨rfl, g1⟩; have k1 : Kp w w1 := Kp.trans ((Kp.refl w).alloc _) g1; have q0 := Fq.H2.keep (Fq.H2.new w (.float .f64 a) (.float .f64 b) 30) g1; obtain ⟨x0, x1, x2, x3⟩ := id q0) | (go_at_call 47; refine (i1 _).mono ?_; rintro e w3 ⟨rfl, hw3⟩; obtain rfl := hw3.symm; clear hw3))
    exact bodyPost_ret (v := .bool _) (by simp [results, Try.results19, go_sem]) rfl ⟨rfl, (by repeat (with_reducible (first | assumption | exact Kp.refl _ | apply Kp.drew | apply Kp.alloc | apply Kp.drewN | (refine Kp.setCell ?_ (by first | omega | (simp <;> omega)) _) | (refine Kp.trans ?_ (by assumption)))))⟩)
set_option maxRecDepth 20000 in
set_option maxHeartbeats 2000000 in
theorem rmem1_ (V X Y : Int) (h1 : ∀ w : World, Calls Try.prog 48 #[.int .u64 V] w fun e w' => e = .returned (.bool true) ∧ w' = w) (w : World) : Calls Try.prog 21 #[.int .u64 V, .agg #[.int .u64 X, .int .u64 Y]] w fun e w' => e = .returned (.bool false) ∧ Kp w w' := by
  go_enter Try.func21, Try.ntmps21
  go_wp2_with (first | (go_at_call 48; refine (h1 _).mono ?_; rintro e wq ⟨rfl, hwq⟩; obtain rfl := hwq.symm; clear hwq))
  exact bodyPost_ret (v := .bool false) (by simp [results, Try.results21, go_sem]) rfl ⟨rfl, (by repeat (with_reducible (first | assumption | exact Kp.refl _ | apply Kp.drew | apply Kp.alloc | apply Kp.drewN | (refine Kp.setCell ?_ (by first | omega | (simp <;> omega)) _) | (refine Kp.trans ?_ (by assumption)))))⟩
set_option maxRecDepth 20000 in
set_option maxHeartbeats 2000000 in
theorem rmem2_ (V X Y : Int) (h1 : ∀ w : World, Calls Try.prog 48 #[.int .u64 V] w fun e w' => e = .returned (.bool false) ∧ w' = w) (h2 : ∀ w : World, Calls Try.prog 12 #[.int .u64 V] w fun e w' => e = .returned (.bool true) ∧ w' = w) (w : World) : Calls Try.prog 21 #[.int .u64 V, .agg #[.int .u64 X, .int .u64 Y]] w fun e w' => e = .returned (.bool false) ∧ Kp w w' := by
  go_enter Try.func21, Try.ntmps21
  go_wp2_with (first | (go_at_call 48; refine (h1 _).mono ?_; rintro e wq ⟨rfl, hwq⟩; obtain rfl := hwq.symm; clear hwq) | (go_at_call 12; refine (h2 _).mono ?_; rintro e wq ⟨rfl, hwq⟩; obtain rfl := hwq.symm; clear hwq))
  exact bodyPost_ret (v := .bool false) (by simp [results, Try.results21, go_sem]) rfl ⟨rfl, (by repeat (with_reducible (first | assumption | exact Kp.refl _ | apply Kp.drew | apply Kp.alloc | apply Kp.drewN | (refine Kp.setCell ?_ (by first | omega | (simp <;> omega)) _) | (refine Kp.trans ?_ (by assumption)))))⟩
set_option maxRecDepth 20000 in
set_option maxHeartbeats 2000000 in
theorem rmem3_ (V X Y P : Int) (B : Bool) (h1 : ∀ w : World, Calls Try.prog 48 #[.int .u64 V] w fun e w' => e = .returned (.bool false) ∧ w' = w) (h2 : ∀ w : World, Calls Try.prog 12 #[.int .u64 V] w fun e w' => e = .returned (.bool false) ∧ w' = w) (h3 : ∀ w : World, Calls Try.prog 43 #[.int .u64 V] w fun e w' => e = .returned (.int .u64 P) ∧ w' = w) (h4 : ∀ w : World, Calls Try.prog 25 #[.agg #[.int .u64 P, .int .u64 P], .agg #[.int .u64 X, .int .u64 Y]] w fun e w' => e = .returned (.bool B) ∧ Kp w w') (w : World) : Calls Try.prog 21 #[.int .u64 V, .agg #[.int .u64 X, .int .u64 Y]] w fun e w' => e = .returned (.bool B) ∧ Kp w w' := by
  go_enter Try.func21, Try.ntmps21
  go_wp2_with (first | (go_at_call 48; refine (h1 _).mono ?_; rintro e wq ⟨rfl, hwq⟩; obtain rfl := hwq.symm; clear hwq) | (go_at_call 12; refine (h2 _).mono ?_; rintro e wq ⟨rfl, hwq⟩; obtain rfl := hwq.symm; clear hwq) | (go_at_call 43; refine (h3 _).mono ?_; rintro e wq ⟨rfl, hwq⟩; obtain rfl := hwq.symm; clear hwq) | (go_at_call 25; refine (h4 _).mono ?_; rintro e w1 ⟨rfl, g1⟩; have k1 : Kp w w1 := Kp.trans ((Kp.refl w).alloc _) g1))
  exact bodyPost_ret (v := .bool B) (by simp [results, Try.results21, go_sem]) rfl ⟨rfl, k1⟩
theorem mem_both (v a b : Nat) (hv : v < 18446744073709551616) (ha : a < 18446744073709551616) (hb : b < 18446744073709551616) : ∃ B : Bool, (∀ w : World, Calls Try.prog 19 #[.float .f64 v, .agg #[.float .f64 a, .float .f64 b]] w fun e w' => e = .returned (.bool B) ∧ Kp w w') ∧ (∀ w : World, Calls Try.prog 21 #[.int .u64 ((v : Nat) : Int), .agg #[.int .u64 ((a : Nat) : Int), .int .u64 ((b : Nat) : Int)]] w fun e w' => e = .returned (.bool B) ∧ Kp w w') := by
  obtain ⟨L, H, r⟩ := Rd.ex a b ha hb
  obtain ⟨g, q, hq, rfl⟩ := Fq.exD v hv
  by_cases c1 : 9218868437227405312 < q
  · refine ⟨false, fun w => ?_, fun w => ?_⟩
    · have i1 : ∀ w : World, ∃ E1, True := fun _ => ⟨true, trivial⟩
      have t1 : (FloatKind.f64.format.order (pw L) (Fq.wD g q) == some Ordering.lt || FloatKind.f64.format.order (pw L) (Fq.wD g q) == some Ordering.eq) = false := by
        rw [Fq.ordD_nanr g q _ c1 hq]; rfl
      have h := memberA_ (Fq.wD g q) a b _ _ r.call _ _ _ (isInfN_ g q c1 hq) t1 rfl w
      simpa using h
    · have h1 := Fq.isnan6_ g q hq
      rw [decide_eq_true c1] at h1
      exact rmem1_ _ _ _ h1 w
  have h1 := Fq.isnan6_ g q hq
  rw [decide_eq_false c1] at h1
  have i1 := isInf8_ g q (by omega)
  have h2 := isinf6_ g q hq
  by_cases c2 : q = 9218868437227405312
  · rw [decide_eq_true c2] at i1 h2
    refine ⟨false, fun w => ?_, fun w => rmem2_ _ _ _ h1 h2 w⟩
    have h := memberA_ (Fq.wD g q) a b _ _ r.call _ _ _ i1 rfl rfl w
    simpa using h
  · rw [decide_eq_false c2] at i1 h2
    have h3 := Fq.rplain6_ g q (by omega)
    have hz : BdZ (Fq.plz g q) := by unfold BdZ Fq.plz; cases g <;> simp <;> omega
    have e3 : Fq.pla (Fq.wD g q) = pw (Fq.plz g q) := by
      by_cases c3 : Fq.wD g q = 9223372036854775808
      · rw [c3]
        have hg : g = true ∧ q = 0 := by
          unfold Fq.wD at c3
          cases g
          · simp at c3; omega
          · simp at c3; exact ⟨rfl, c3⟩
        rw [hg.1, hg.2]; decide
      · rw [(pw_plz g q c3 (by omega)).1]; unfold Fq.pla; rw [if_neg c3]
    have hd : VdZ (Fq.plz g q) (Fq.plz g q) := Or.inr (by
      unfold Fq.plz; cases g <;> simp <;> omega)
    have h4 := rsubset9_ _ _ _ _ _ _ _ _ hd r.vd (rread9_ _ _ _ _ (Rd.of hd)) (rread9_ a b L H r)
    refine ⟨decide (L ≤ Fq.plz g q ∧ Fq.plz g q ≤ H), fun w => ?_, fun w => ?_⟩
    · have o1 : ∀ x, BdZ x → FloatKind.f64.format.order (pw x) (Fq.wD g q) = some (compare x (Fq.plz g q)) := by
        intro x hx
        have h := Fq.ordD (decide (x < 0)) g x.natAbs q (abs_pw x hx) (by omega)
        rw [plz_pw] at h
        exact h
      have o2 : ∀ x, BdZ x → FloatKind.f64.format.order (Fq.wD g q) (pw x) = some (compare (Fq.plz g q) x) := by
        intro x hx
        have h := Fq.ordD g (decide (x < 0)) q x.natAbs (by omega) (abs_pw x hx)
        rw [plz_pw] at h
        exact h
      have t1 : (FloatKind.f64.format.order (pw L) (Fq.wD g q) == some Ordering.lt || FloatKind.f64.format.order (pw L) (Fq.wD g q) == some Ordering.eq) = decide (L ≤ Fq.plz g q) := by
        rw [o1 L r.vd.lo, ← ord_pw L (Fq.plz g q) r.vd.lo hz, ple9 _ _ r.vd.lo hz]
      have t2 : (FloatKind.f64.format.order (Fq.wD g q) (pw H) == some Ordering.lt || FloatKind.f64.format.order (Fq.wD g q) (pw H) == some Ordering.eq) = decide (Fq.plz g q ≤ H) := by
        rw [o2 H r.vd.hi, ← ord_pw (Fq.plz g q) H hz r.vd.hi, ple9 _ _ hz r.vd.hi]
      have h := memberA_ (Fq.wD g q) a b _ _ r.call _ _ _ i1 t1 t2 w
      rw [show (!false && (decide (L ≤ Fq.plz g q) && decide (Fq.plz g q ≤ H))) = decide (L ≤ Fq.plz g q ∧ Fq.plz g q ≤ H) from by simp] at h
      exact h
    · rw [e3] at h3
      exact rmem3_ _ _ _ _ _ h1 h2 h3 h4 w
set_option maxRecDepth 20000 in
set_option maxHeartbeats 4000000 in
theorem membersA_ (V X Y : Int) (v a b : Nat) (B : Bool) (hf : ∀ w : World, (callFunc 20 #[.int .u64 V]).run Try.prog w = .ok (.value (.float .f64 v)) w) (hi : ∀ w : World, Calls Try.prog 11 #[.agg #[.int .u64 X, .int .u64 Y]] w fun e w' => e = .returned (.agg #[.float .f64 a, .float .f64 b]) ∧ Kp w w') (hp : ∀ w : World, Calls Try.prog 19 #[.float .f64 v, .agg #[.float .f64 a, .float .f64 b]] w fun e w' => e = .returned (.bool B) ∧ Kp w w') (hr : ∀ w : World, Calls Try.prog 21 #[.int .u64 V, .agg #[.int .u64 X, .int .u64 Y]] w fun e w' => e = .returned (.bool B) ∧ Kp w w') (w : World) : Calls Try.prog 5 #[.int .u64 V, .agg #[.int .u64 X, .int .u64 Y]] w fun e w' => e = .returned (.bool true) ∧ Kp w w' := by
  go_enter Try.func5, Try.ntmps5
  go_wp2
  refine Fq.wp_region_grow (by kernel_rfl) (by kernel_rfl) (fun ι _ G hG hall => ?_)
  have cc0 : ∀ n, (G n).cell? ⟨w.heap.size, 0, none⟩ = some (.int .u64 X) := fun n => Fq.gkeep (hG n) (by simp [go_sem])
  have cc1 : ∀ n, (G n).cell? ⟨w.heap.size, 1, none⟩ = some (.int .u64 Y) := fun n => Fq.gkeep (hG n) (by simp [go_sem])
  repeat (go_big_quiet_step (first | (go_at_call 11; exact (hi _).mono (fun e w' h => ⟨h.1, hall _ (Fq.gtrans (hG _) h.2)⟩)) | (go_at_call 19; exact (hp _).mono (fun e w' h => ⟨h.1, hall _ (Fq.gtrans (hG _) h.2)⟩)) | (go_at_call 21; exact (hr _).mono (fun e w' h => ⟨h.1, hall _ (Fq.gtrans (hG _) h.2)⟩))))
  refine wpQuiet_nil ?_
  rintro _ ⟨nq, rfl⟩
  have gq : Kp _ (G nq) := hG nq
  clear cc0 cc1 hall hG
  have gq2 := Kp.trans ((Kp.refl w).alloc _) gq
  go_wp2
  exact bodyPost_ret (v := .bool true) (by simp [results, Try.results5, go_sem]) rfl ⟨rfl, gq2⟩
theorem members_ (v a b : Nat) (hv : v < 18446744073709551616) (ha : a < 18446744073709551616) (hb : b < 18446744073709551616) (w : World) : Calls Try.prog 5 #[.int .u64 ((v : Nat) : Int), .agg #[.int .u64 ((a : Nat) : Int), .int .u64 ((b : Nat) : Int)]] w fun e w' => e = .returned (.bool true) ∧ Kp w w' := by
  obtain ⟨B, hp, hr⟩ := mem_both v a b hv ha hb
  exact membersA_ _ _ _ v a b B (Fq.ff64 v) (in9_ a b) hp hr w
end Go.Proofs.Ythajkngngdnidaa
