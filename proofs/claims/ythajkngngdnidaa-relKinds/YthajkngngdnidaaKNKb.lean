import Derived.Test.YthajkngngdnidaaProg
import Derived.Test.YthajkngngdnidaaKXA0
import Derived.Test.YthajkngngdnidaaKQM
import Derived.Test.YthajkngngdnidaaKQA
import Derived.Test.YthajkngngdnidaaKXQU
import Derived.Test.YthajkngngdnidaaKEM
import Derived.Test.YthajkngngdnidaaKEN
import Derived.Test.YthajkngngdnidaaKEA
import Derived.Test.YthajkngngdnidaaKEB
import Derived.Test.YthajkngngdnidaaKEH
import Derived.Test.YthajkngngdnidaaKEK
import Derived.Test.YthajkngngdnidaaKEO
import Derived.Test.YthajkngngdnidaaKER
import Derived.Test.YthajkngngdnidaaKES
import Derived.Test.YthajkngngdnidaaKNRv
import Derived.Test.YthajkngngdnidaaKNRm
import Derived.Test.YthajkngngdnidaaKNRa
import Derived.Test.YthajkngngdnidaaKNRb
import Derived.Test.YthajkngngdnidaaKNRc
import Derived.Test.YthajkngngdnidaaKNRd
import Derived.Test.YthajkngngdnidaaKNRe
import Derived.Test.YthajkngngdnidaaKNRf
import Derived.Test.YthajkngngdnidaaKNRg
import Derived.Test.YthajkngngdnidaaKNRh
import Derived.Test.YthajkngngdnidaaKNRi
import Derived.Test.YthajkngngdnidaaKNKa
import Derived.Test.YthajkngngdnidaaKNRj
import Derived.WalkKit
import Derived.ProofKit
import Derived.RowKit3
import Derived.WalkSpells
import Derived.StillTactics
import Derived.Deep.QuietTactic
import Derived.BigQuiet
import Derived.Below
import Derived.Deep.OwnRows
import Derived.OwnWalk
import Derived.Laws.BitsAllLaws
import Derived.Laws.Slices
import Derived.Laws.Bits64b
import Derived.Laws.FloatArith
import Derived.Deep.RegionHeld3
import Derived.Deep.CutRange
import Derived.Deep.DeepCutAuto
namespace Go.Proofs.Ythajkngngdnidaa
open Go.RowKit
theorem rentire9_ (w : World) : Calls Try.prog 16 #[] w fun e w' => e = .returned (.agg #[.int .u64 18442240474082181120, .int .u64 9218868437227405312]) ∧ Kp w w' := by
  refine (Fq.rentire_ w).mono ?_
  rintro e w' ⟨rfl, rfl⟩
  exact ⟨rfl, (Kp.refl w).alloc _⟩
set_option maxRecDepth 20000 in
set_option maxHeartbeats 4000000 in
theorem kindsA_ (X1 X2 Y1 Y2 : Int) (A1 A2 : Nat) (E1 E2 VE e1 e2 VS : Bool) (hr : ∀ w : World, Calls Try.prog 10 #[.agg #[.int .u64 X1, .int .u64 X2]] w fun e w' => e = .returned (.agg #[.int .u64 Y1, .int .u64 Y2]) ∧ Kp w w') (hi : ∀ w : World, Calls Try.prog 11 #[.agg #[.int .u64 X1, .int .u64 X2]] w fun e w' => e = .returned (.agg #[.float .f64 A1, .float .f64 A2]) ∧ Kp w w') (j1 : ∀ w : World, Calls Try.prog 12 #[.int .u64 Y1] w fun e w' => e = .returned (.bool E1) ∧ w' = w) (j2 : ∀ w : World, Calls Try.prog 12 #[.int .u64 Y2] w fun e w' => e = .returned (.bool E2) ∧ w' = w) (he : ∀ w : World, Calls Try.prog 13 #[.agg #[.float .f64 A1, .float .f64 A2]] w fun e w' => e = .returned (.bool VE) ∧ Kp w w') (hn : ∀ w : World, Calls Try.prog 15 #[.agg #[.float .f64 A1, .float .f64 A2]] w fun e w' => e = .returned (.bool (e1 && e2)) ∧ Kp w w') (hs : ∀ w : World, Calls Try.prog 17 #[.agg #[.float .f64 A1, .float .f64 A2]] w fun e w' => e = .returned (.bool VS) ∧ Kp w w') (hc : ∀ w : World, Calls Try.prog 18 #[.agg #[.float .f64 A1, .float .f64 A2]] w fun e w' => e = .returned (.bool (!E1 && !E2)) ∧ Kp w w') (t1 : VE = true ∧ (Y1 == 9218868437227405312) = true ∧ (Y2 == 18442240474082181120) = true ∨ VE = false ∧ (Y1 == 9218868437227405312) = false) (t2 : (Y1 == 18442240474082181120) = e1) (t3 : (Y2 == 9218868437227405312) = e2) (t4 : (Y1 == Y2) = VS) (w : World) : Calls Try.prog 4 #[.agg #[.int .u64 X1, .int .u64 X2]] w fun e w' => e = .returned (.bool true) ∧ Kp w w' := by
  obtain ⟨Wd, hWd⟩ : ∃ Wd, Wd = (E1 || E2) := ⟨_, rfl⟩
  rw [show (!E1 && !E2) = !Wd from by rw [hWd]; cases E1 <;> cases E2 <;> rfl] at hc
  have HW : Hid (Wd = (E1 || E2)) := hWd
  have HT : Hid (VE = true ∧ (Y1 == 9218868437227405312) = true ∧ (Y2 == 18442240474082181120) = true ∨ VE = false ∧ (Y1 == 9218868437227405312) = false) := t1
  have HT2 : Hid ((Y1 == 18442240474082181120) = e1 ∧ (Y2 == 9218868437227405312) = e2) := ⟨t2, t3⟩
  have HT4 : Hid ((Y1 == Y2) = VS) := t4
  clear hWd t1 t2 t3 t4
  go_enter Try.func4, Try.ntmps4
  go_upto_region 3 with (first | (go_at_call 10; refine (hr _).mono ?_; rintro e w1 ⟨rfl, g1⟩; have k1 : Kp w w1 := Kp.trans ((Kp.refl w).alloc _) g1; have s1 := Fq.H2.keep (Fq.H2.new w (.int .u64 X1) (.int .u64 X2) 26) g1; have y00 := fun o => (Fq.H2.keep s1 ((Kp.refl w1).alloc o)).1; have y01 := fun o => (Fq.H2.keep s1 ((Kp.refl w1).alloc o)).2.1) | (go_at_call 11; refine (hi _).mono ?_; rintro e w2 ⟨rfl, g2⟩; have k2 := Kp.trans (k1.alloc _) g2; have q02 := Fq.H2.keep (Fq.H2.new w1 (.int .u64 Y1) (.int .u64 Y2) 26) g2))
  have qy := Fq.H2.past q02 #[.float .f64 A1, .float .f64 A2] 30
  have qa := Fq.H2.new w2 (.float .f64 A1) (.float .f64 A2) 30
  have kW := k2.alloc (.cells #[.float .f64 A1, .float .f64 A2] 30)
  generalize hW : w2.alloc (.cells #[.float .f64 A1, .float .f64 A2] 30) = W at qa qy kW ⊢
  generalize w1.heap.size = by9 at qy ⊢
  generalize w2.heap.size = ba at qa ⊢
  clear hW k1 k2 s1 g1 g2 y00 y01 q02 hr hi
  go_cut [5] (fun s5 wx => s5 = .bool Wd ∧ wx = W)
  case first =>
    have hw := HW.out
    clear HT HT2 HT4 HW
    obtain ⟨y0, y1, y2, y3⟩ := id qy
    cases E1 <;> cases E2
    all_goals (
      go_wp2_with (first | (go_at_call_of 12 (Value.int .u64 Y1); refine (j1 _).mono ?_; rintro e wq ⟨rfl, hwq⟩; obtain rfl := hwq.symm; clear hwq) | (go_at_call_of 12 (Value.int .u64 Y2); refine (j2 _).mono ?_; rintro e wq ⟨rfl, hwq⟩; obtain rfl := hwq.symm; clear hwq))
      go_meet
      exact ⟨by rw [hw]; rfl, rfl⟩)
  case rest =>
  obtain ⟨rfl, hwc⟩ := hcut
  obtain rfl := hwc.symm
  clear hwc HW j1 j2
  go_upto_region 4 with fail
  go_cut [31] (fun s31 wx => s31 = .bool false ∧ Kp W wx)
  case first =>
    obtain ⟨t2, t3⟩ := HT2.out
    have t1 := HT.out
    clear HT HT2 HT4
    rcases t1 with ⟨rfl, t6, t7⟩ | ⟨rfl, t6⟩
    all_goals (
      cases e1 <;> cases e2
      all_goals (
        refine Fq.wp_region_grow (by kernel_rfl) (by kernel_rfl) (fun ι _ G hG hall => ?_)
        have cc0 : ∀ n, (G n).cell? ⟨by9, 0, none⟩ = some (.int .u64 Y1) := fun n => Fq.gkeep (hG n) qy.1
        have cc1 : ∀ n, (G n).cell? ⟨by9, 1, none⟩ = some (.int .u64 Y2) := fun n => Fq.gkeep (hG n) qy.2.1
        have cc2 : ∀ n, (G n).cell? ⟨ba, 0, none⟩ = some (.float .f64 A1) := fun n => Fq.gkeep (hG n) qa.1
        have cc3 : ∀ n, (G n).cell? ⟨ba, 1, none⟩ = some (.float .f64 A2) := fun n => Fq.gkeep (hG n) qa.2.1
        repeat (go_big_quiet_step (first | (go_at_call 13; exact (he _).mono (fun e w' h => ⟨h.1, hall _ (Fq.gtrans (hG _) h.2)⟩)) | (go_at_call 15; exact (hn _).mono (fun e w' h => ⟨h.1, hall _ (Fq.gtrans (hG _) h.2)⟩)) | (go_at_call 17; exact (hs _).mono (fun e w' h => ⟨h.1, hall _ (Fq.gtrans (hG _) h.2)⟩)) | (go_at_call 18; exact (hc _).mono (fun e w' h => ⟨h.1, hall _ (Fq.gtrans (hG _) h.2)⟩)) | (go_at_call 14; exact (rempty9_ _).mono (fun e w' h => ⟨h.1, hall _ (Fq.gtrans (hG _) h.2)⟩)) | (go_at_call 16; exact (rentire9_ _).mono (fun e w' h => ⟨h.1, hall _ (Fq.gtrans (hG _) h.2)⟩))))
        refine wpQuiet_nil ?_
        rintro _ ⟨nq, rfl⟩
        have gq : Kp W (G nq) := hG nq
        clear cc0 cc1 cc2 cc3 hall hG
        go_wp2_with fail
        go_meet
        exact ⟨rfl, gq⟩))
  case rest =>
  obtain ⟨rfl, gw⟩ := hcut
  replace qa := Fq.H2.keep qa gw
  replace qy := Fq.H2.keep qy gw
  replace kW := Kp.trans kW gw
  clear gw HT HT2
  generalize wc = W at qa qy kW ⊢
  have t4 := HT4.out
  clear HT4
  go_upto_region 6 with fail
  refine Fq.wp_region_grow (by kernel_rfl) (by kernel_rfl) (fun ι _ G hG hall => ?_)
  have cc0 : ∀ n, (G n).cell? ⟨by9, 0, none⟩ = some (.int .u64 Y1) := fun n => Fq.gkeep (hG n) qy.1
  have cc1 : ∀ n, (G n).cell? ⟨by9, 1, none⟩ = some (.int .u64 Y2) := fun n => Fq.gkeep (hG n) qy.2.1
  have cc2 : ∀ n, (G n).cell? ⟨ba, 0, none⟩ = some (.float .f64 A1) := fun n => Fq.gkeep (hG n) qa.1
  have cc3 : ∀ n, (G n).cell? ⟨ba, 1, none⟩ = some (.float .f64 A2) := fun n => Fq.gkeep (hG n) qa.2.1
  repeat (go_big_quiet_step (first | (go_at_call 13; exact (he _).mono (fun e w' h => ⟨h.1, hall _ (Fq.gtrans (hG _) h.2)⟩)) | (go_at_call 15; exact (hn _).mono (fun e w' h => ⟨h.1, hall _ (Fq.gtrans (hG _) h.2)⟩)) | (go_at_call 17; exact (hs _).mono (fun e w' h => ⟨h.1, hall _ (Fq.gtrans (hG _) h.2)⟩)) | (go_at_call 18; exact (hc _).mono (fun e w' h => ⟨h.1, hall _ (Fq.gtrans (hG _) h.2)⟩)) | (go_at_call 14; exact (rempty9_ _).mono (fun e w' h => ⟨h.1, hall _ (Fq.gtrans (hG _) h.2)⟩)) | (go_at_call 16; exact (rentire9_ _).mono (fun e w' h => ⟨h.1, hall _ (Fq.gtrans (hG _) h.2)⟩))))
  refine wpQuiet_nil ?_
  rintro _ ⟨nq, rfl⟩
  have gq : Kp W (G nq) := hG nq
  clear cc0 cc1 cc2 cc3 hall hG
  go_wp2
  exact bodyPost_ret (v := .bool true) (by simp [results, Try.results4, go_sem]) rfl ⟨rfl, (Kp.trans kW gq)⟩
theorem kinds_ (a b : Nat) (ha : a < 18446744073709551616) (hb : b < 18446744073709551616) (w : World) : Calls Try.prog 4 #[.agg #[.int .u64 ((a : Nat) : Int), .int .u64 ((b : Nat) : Int)]] w fun e w' => e = .returned (.bool true) ∧ Kp w w' := by
  obtain ⟨L, H, r⟩ := Rd.ex a b ha hb
  have d := r.vd
  have i1 := pI_inj L 9218868437227405312 d.lo (by unfold BdZ; omega)
  have i2 := pI_inj H (-9218868437227405312) d.hi (by unfold BdZ; omega)
  have i3 := pI_inj L (-9218868437227405312) d.lo (by unfold BdZ; omega)
  have i4 := pI_inj H 9218868437227405312 d.hi (by unfold BdZ; omega)
  have i5 := pI_inj L H d.lo d.hi
  rw [show pI 9218868437227405312 = 9218868437227405312 from by decide] at i1 i4
  rw [show pI (-9218868437227405312) = 18442240474082181120 from by decide] at i2 i3
  have hn := entire9_ a b L H r
  rw [Bool.decide_and] at hn
  have dd := d
  unfold VdZ at dd
  refine kindsA_ _ _ (pI L) (pI H) a b _ _ _ _ _ _ (rread9_ a b L H r) (in9_ a b) (isinf9_ L d.lo) (isinf9_ H d.hi) (isemp9_ a b L H r) hn (single9_ a b L H r) (common9_ a b L H r) ?_ ?_ ?_ ?_ w
  · by_cases c : L = 9218868437227405312
    · exact Or.inl ⟨decide_eq_true c, by simpa using i1.2 c, by simpa using i2.2 (by omega)⟩
    · exact Or.inr ⟨decide_eq_false c, by simpa using fun h => c (i1.1 h)⟩
  · by_cases c : L = -9218868437227405312
    · rw [decide_eq_true c]; simpa using i3.2 c
    · rw [decide_eq_false c]; simpa using fun h => c (i3.1 h)
  · by_cases c : H = 9218868437227405312
    · rw [decide_eq_true c]; simpa using i4.2 c
    · rw [decide_eq_false c]; simpa using fun h => c (i4.1 h)
  · by_cases c : L = H
    · rw [decide_eq_true c]; simpa using i5.2 c
    · rw [decide_eq_false c]; simpa using fun h => c (i5.1 h)
end Go.Proofs.Ythajkngngdnidaa
