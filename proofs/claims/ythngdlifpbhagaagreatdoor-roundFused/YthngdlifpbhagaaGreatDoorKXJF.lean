import Derived.Test.YthngdlifpbhagaaGreatDoorProg
import Derived.Test.YthngdlifpbhagaaGreatDoorKXA0
import Derived.Test.YthngdlifpbhagaaGreatDoorKXM
import Derived.Test.YthngdlifpbhagaaGreatDoorKXY
import Derived.Test.YthngdlifpbhagaaGreatDoorKXQF
import Derived.Test.YthngdlifpbhagaaGreatDoorKQA
import Derived.Test.YthngdlifpbhagaaGreatDoorKQP
import Derived.Test.YthngdlifpbhagaaGreatDoorKXQU
import Derived.Test.YthngdlifpbhagaaGreatDoorKQB
import Derived.Test.YthngdlifpbhagaaGreatDoorKQBT
import Derived.Test.YthngdlifpbhagaaGreatDoorKQJd
import Derived.Test.YthngdlifpbhagaaGreatDoorKHB
import Derived.Test.YthngdlifpbhagaaGreatDoorKLX
import Derived.Test.YthngdlifpbhagaaGreatDoorKMR7Q
import Derived.Test.YthngdlifpbhagaaGreatDoorKXG1
import Derived.Test.YthngdlifpbhagaaGreatDoorKXH2Q
import Derived.Test.YthngdlifpbhagaaGreatDoorKXMR
import Derived.Test.YthngdlifpbhagaaGreatDoorKXNM
import Derived.Test.YthngdlifpbhagaaGreatDoorKXMQ
import Derived.Test.YthngdlifpbhagaaGreatDoorKXMS
import Derived.Test.YthngdlifpbhagaaGreatDoorKXO3
import Derived.Test.YthngdlifpbhagaaGreatDoorKXO
import Derived.Test.YthngdlifpbhagaaGreatDoorKXS2
import Derived.Test.YthngdlifpbhagaaGreatDoorKXS4
import Derived.Test.YthngdlifpbhagaaGreatDoorKXU1
import Derived.Test.YthngdlifpbhagaaGreatDoorKXZA
import Derived.Test.YthngdlifpbhagaaGreatDoorKLN
import Derived.Test.YthngdlifpbhagaaGreatDoorKXT
import Derived.Test.YthngdlifpbhagaaGreatDoorKXRT
import Derived.Test.YthngdlifpbhagaaGreatDoorKXRL
import Derived.Test.YthngdlifpbhagaaGreatDoorKXCO
import Derived.Test.YthngdlifpbhagaaGreatDoorKXRN
import Derived.Test.YthngdlifpbhagaaGreatDoorKW4
import Derived.Test.YthngdlifpbhagaaGreatDoorKBY
import Derived.Test.YthngdlifpbhagaaGreatDoorKXBW
import Derived.Test.YthngdlifpbhagaaGreatDoorKXTZ
import Derived.Test.YthngdlifpbhagaaGreatDoorKXG4
import Derived.Test.YthngdlifpbhagaaGreatDoorKXU6
import Derived.Test.YthngdlifpbhagaaGreatDoorKXS6
import Derived.Test.YthngdlifpbhagaaGreatDoorKXS8
import Derived.Test.YthngdlifpbhagaaGreatDoorKZD
import Derived.Test.YthngdlifpbhagaaGreatDoorKJE
import Derived.WalkKit
import Derived.ProofKit
import Derived.RowKit3
import Derived.WalkSpells
import Derived.StillTactics
import Derived.Deep.QuietTactic
import Derived.BigQuiet
import Derived.Below
import Derived.Deep.OwnRows
import Derived.OwnWalk
import Derived.Laws.BitsAllLaws
import Derived.Laws.Slices
import Derived.Laws.Bits64b
import Derived.Laws.FloatArith
import Derived.Deep.RegionHeld3
namespace Go.Proofs.YthngdlifpbhagaaGreatDoor
open Go.RowKit
theorem iv_zero9 (n : Bool) : Iv n 0 = 0 := by unfold Iv; cases n <;> rfl
theorem ordfin (n : Bool) (R : Nat) (h : R ≤ 9218868437227405312) : (FloatKind.f64.format.order (Fq.wD n R) (Fq.wD n R) != some .eq) = false := by
  rw [Fq.ordD n n R R h h, Fq.cmp_eq rfl]; rfl
theorem ordnn (r : Nat) (h1 : 9218868437227405312 < r % 9223372036854775808) (h2 : r < 18446744073709551616) : (FloatKind.f64.format.order r r != some .eq) = true := by
  have e : r = Fq.wD (decide (9223372036854775808 ≤ r)) (r % 9223372036854775808) := by
    unfold Fq.wD
    by_cases c : 9223372036854775808 ≤ r
    · rw [decide_eq_true c, if_pos rfl]; omega
    · rw [decide_eq_false c, if_neg (by simp)]; omega
  have h3 := Fq.ordD_nanl (decide (9223372036854775808 ≤ r)) (r % 9223372036854775808) r h1 (Nat.mod_lt _ (by decide))
  rw [← e] at h3
  rw [h3]; rfl
theorem ordfma (d V : Int) : (FloatKind.f64.format.order (fmaW d V) (fmaW d V) != some .eq) = false := by
  unfold fmaW
  by_cases c : V = 0
  · rw [if_pos c]; exact ordfin false 0 (by decide)
  · rw [if_neg c]; exact ordselfD _ _ (fin_leD _ _)
theorem ordw (n : Bool) (m : Nat) (hm : m < 9223372036854775808) (h : 9218868437227405312 < m) : (FloatKind.f64.format.order (Fq.wD n m) (Fq.wD n m) != some .eq) = true := by
  rw [Fq.ordD_nanl n m _ h hm]; rfl
theorem add_nan (X : Nat) (n : Bool) (m : Nat) (hm : m < 9223372036854775808) (hX : X < 18446744073709551616) (h : 9218868437227405312 < X % 9223372036854775808) : FloatKind.f64.format.add X (Fq.wD n m) = none := by
  obtain ⟨a, b, hb, hR⟩ := word_of X hX
  rw [hR]
  exact add_bad a n b m (by omega) hm (Or.inl (by omega))
set_option maxHeartbeats 1000000 in
theorem fma_both (d : Int) (n n' nz : Bool) (m m' mz : Nat) (hm : m < 9223372036854775808) (hm' : m' < 9223372036854775808) (hmz : mz < 9223372036854775808) (hd1 : -9223372036854775808 ≤ d) (hd2 : d < 9223372036854775808) :
    ∃ Z : Nat, (∀ w : World, Tab w → Fq.Tab w → Calls Tryz.prog 6 #[.int .i64 d, .float .f64 (Fq.wD n m), .float .f64 (Fq.wD n' m'), .float .f64 (Fq.wD nz mz)] w fun e w' => ∃ R, e = .returned (.float .f64 R) ∧ (∀ w1 : World, Calls Tryz.prog 5 #[.float .f64 R] w1 fun e w' => e = .returned (.int .u64 (Z : Int)) ∧ w' = w1) ∧ Kp w w') ∧ (∀ w : World, Calls Tryz.prog 8 #[.int .i64 d, .int .u64 ((Fq.wD n m : Nat) : Int), .int .u64 ((Fq.wD n' m' : Nat) : Int), .int .u64 ((Fq.wD nz mz : Nat) : Int)] w fun e w' => e = .returned (.int .u64 (Z : Int)) ∧ Kp w w') := by
  obtain ⟨K, hK⟩ : ∃ K : Nat, K = 1074 := ⟨_, rfl⟩
  by_cases hi : m < 9218868437227405312 ∧ m' < 9218868437227405312
  · obtain ⟨c1, c2⟩ := hi
    by_cases c3 : mz < 9218868437227405312
    · refine ⟨fmaW d (Iv n m * Iv n' m' + Iv nz mz * ((2 ^ K : Nat) : Int)), fun w hT hQ => ?_, fun w => rfmaF_ d n n' nz m m' mz c1 c2 c3 K hK w⟩
      suffices h : Calls Tryz.prog 6 #[.int .i64 d, .float .f64 (Fq.wD n m), .float .f64 (Fq.wD n' m'), .float .f64 (Fq.wD nz mz)] w fun e w' => e = .returned (.float .f64 (fmaW d (Iv n m * Iv n' m' + Iv nz mz * ((2 ^ K : Nat) : Int)))) ∧ Kp w w' from
        h.mono fun e w' h => ⟨_, h.1, fun w1 => bitsN_ _ (ordfma _ _) w1, h.2⟩
      by_cases ct : (2580562586483294208 ≤ m ∧ m ≤ 6633802251116740608) ∧ (2580562586483294208 ≤ m' ∧ m' ≤ 6633802251116740608) ∧ mz ≤ 9110782046170513408
      · exact pfmaQ_ d n n' nz m m' mz ct.1 ct.2.1 ct.2.2 K hK w hT hQ hd1 hd2
      · exact pfmaE_ d n n' nz m m' mz c1 c2 c3 ct K hK w hT hQ hd1 hd2
    · by_cases c4 : 9218868437227405312 < mz
      · refine ⟨9221120237041090561, fun w hT hQ => ?_, fun w => rfmaN_ d n n' nz m m' mz hm hm' hmz (Or.inr (Or.inr c4)) w⟩
        refine (pfmaZ_ d n n' nz m m' mz hm hm' hmz c1 c2 c3 w).mono fun e w' h => ?_
        exact ⟨_, h.1, fun w1 => bitsNaN_ _ (ordw nz mz hmz c4) w1, h.2⟩
      · refine ⟨Fq.wD nz mz, fun w hT hQ => ?_, fun w => rfmaZ_ d n n' nz m m' mz hm hm' hmz c1 c2 (by omega) w⟩
        refine (pfmaZ_ d n n' nz m m' mz hm hm' hmz c1 c2 c3 w).mono fun e w' h => ?_
        exact ⟨_, h.1, fun w1 => bitsN_ _ (ordfin nz mz (by omega)) w1, h.2⟩
  · by_cases hb : badP m m'
    · -- the product is no number
      have hp : ∀ w : World, Tab w → Fq.Tab w → Calls Tryz.prog 6 #[.int .i64 d, .float .f64 (Fq.wD n m), .float .f64 (Fq.wD n' m'), .float .f64 (Fq.wD nz mz)] w fun e w' => ∃ R, e = .returned (.float .f64 R) ∧ (∀ w1 : World, Calls Tryz.prog 5 #[.float .f64 R] w1 fun e w' => e = .returned (.int .u64 ((9221120237041090561 : Nat) : Int)) ∧ w' = w1) ∧ Kp w w' := fun w hT hQ => by
        obtain ⟨RP, p1, p2, hrun⟩ := run_nan_mul _ _ (mul_bad n n' m m' hm hm' hb) w
        obtain ⟨RR, p3, p4, hrun2⟩ := run_nan _ _ (add_nan RP nz mz hmz p2 p1) w.drew
        refine (pfmaI_ d n n' nz m m' mz hm hm' hmz hi w w.drew w.drew.drew RP RR hrun hrun2 (Kp.refl _).drew.drew).mono fun e w' h => ?_
        exact ⟨RR, h.1, fun w1 => bitsNaN_ _ (ordnn RR p3 p4) w1, h.2⟩
      by_cases c4 : 9218868437227405312 < m ∨ 9218868437227405312 < m' ∨ 9218868437227405312 < mz
      · exact ⟨9221120237041090561, hp, fun w => rfmaN_ d n n' nz m m' mz hm hm' hmz c4 w⟩
      · refine ⟨9221120237041090561, hp, fun w => ?_⟩
        exact rfmaI_ d n n' nz m m' mz hm hm' hmz (by omega) (by omega) (by omega) hi false 9221120237041090561 9221120237041090561 (by decide) (by decide) w (rprodB_ d n n' m m' hm hm' hb w) (fun w1 => (raddX_ d false nz 9221120237041090561 mz (by decide) hmz (by omega) w1).1 (Or.inl (by decide)))
    · -- it is an infinity
      have hmi := mul_inf n n' m m' hb hi
      have hb1 : m ≤ 9218868437227405312 ∧ m' ≤ 9218868437227405312 := by unfold badP at hb; omega
      by_cases hs : badS (n ^^ n') 9218868437227405312 nz mz
      · have hp : ∀ w : World, Tab w → Fq.Tab w → Calls Tryz.prog 6 #[.int .i64 d, .float .f64 (Fq.wD n m), .float .f64 (Fq.wD n' m'), .float .f64 (Fq.wD nz mz)] w fun e w' => ∃ R, e = .returned (.float .f64 R) ∧ (∀ w1 : World, Calls Tryz.prog 5 #[.float .f64 R] w1 fun e w' => e = .returned (.int .u64 ((9221120237041090561 : Nat) : Int)) ∧ w' = w1) ∧ Kp w w' := fun w hT hQ => by
          obtain ⟨RR, p3, p4, hrun2⟩ := run_nan _ _ (add_bad (n ^^ n') nz 9218868437227405312 mz (by decide) hmz hs) w
          refine (pfmaI_ d n n' nz m m' mz hm hm' hmz hi w w w.drew _ RR (run_float_arith w .mul 25 .f64 _ _ _ hmi) hrun2 (Kp.refl _).drew).mono fun e w' h => ?_
          exact ⟨RR, h.1, fun w1 => bitsNaN_ _ (ordnn RR p3 p4) w1, h.2⟩
        by_cases c4 : 9218868437227405312 < mz
        · exact ⟨9221120237041090561, hp, fun w => rfmaN_ d n n' nz m m' mz hm hm' hmz (Or.inr (Or.inr c4)) w⟩
        · refine ⟨9221120237041090561, hp, fun w => ?_⟩
          exact rfmaI_ d n n' nz m m' mz hm hm' hmz hb1.1 hb1.2 (by omega) hi (n ^^ n') 9218868437227405312 9221120237041090561 (Nat.le_refl _) (by decide) w (rprodI_ d n n' m m' hm hm' hb hi w) (fun w1 => (raddX_ d (n ^^ n') nz 9218868437227405312 mz (by decide) hmz (by omega) w1).1 hs)
      · have hz : mz ≤ 9218868437227405312 := by unfold badS at hs; omega
        refine ⟨Fq.wD (n ^^ n') 9218868437227405312, fun w hT hQ => ?_, fun w => ?_⟩
        · have ha := add_inf (n ^^ n') nz 9218868437227405312 mz hs (by omega)
          rw [if_pos rfl] at ha
          refine (pfmaI_ d n n' nz m m' mz hm hm' hmz hi w w w _ _ (run_float_arith w .mul 25 .f64 _ _ _ hmi) (run_float_arith w .add 25 .f64 _ _ _ ha) (Kp.refl _)).mono fun e w' h => ?_
          exact ⟨_, h.1, fun w1 => bitsN_ _ (ordfin _ _ (Nat.le_refl _)) w1, h.2⟩
        · refine rfmaI_ d n n' nz m m' mz hm hm' hmz hb1.1 hb1.2 hz hi (n ^^ n') 9218868437227405312 _ (Nat.le_refl _) (by decide) w (rprodI_ d n n' m m' hm hm' hb hi w) (fun w1 => ?_)
          have h := (raddX_ d (n ^^ n') nz 9218868437227405312 mz (by decide) hmz (by omega) w1).2 hs
          rw [if_pos rfl] at h
          exact h
set_option maxRecDepth 20000 in
set_option maxHeartbeats 1000000 in
theorem fuseds_ (d : Int) (X Y Z : Nat) (w : World) (hT : Tab w) (hQ : Fq.Tab w) (hd1 : -9223372036854775808 ≤ d) (hd2 : d < 9223372036854775808) (hX : X < 18446744073709551616) (hY : Y < 18446744073709551616) (hZ : Z < 18446744073709551616) :
    Calls Tryz.prog 3 #[.int .i64 d, .agg #[.int .u64 (X : Int), .int .u64 (Y : Int), .int .u64 (Z : Int)]] w fun e w' => e = .returned (.bool true) ∧ Kp w w' := by
  obtain ⟨n, m, hm, eX⟩ := word_of X hX
  obtain ⟨n', m', hm', eY⟩ := word_of Y hY
  obtain ⟨nz, mz, hmz, eZ⟩ := word_of Z hZ
  obtain ⟨V, p1, q1⟩ := fma_both d n n' nz m m' mz (by omega) (by omega) (by omega) hd1 hd2
  rw [← eX, ← eY, ← eZ] at p1 q1
  obtain ⟨B, hB⟩ : ∃ B, B = w.heap.size := ⟨_, rfl⟩
  obtain ⟨w0, hw0⟩ : ∃ w0, w0 = w.alloc (.cells #[.int .u64 (X : Int), .int .u64 (Y : Int), .int .u64 (Z : Int)] 23) := ⟨_, rfl⟩
  have kw : Kp w w0 := by rw [hw0]; exact (Kp.refl w).alloc _
  have x0 : w0.cell? ⟨B, 0, none⟩ = some (.int .u64 (X : Int)) := by rw [hw0, hB]; simp [go_sem]
  have x1 : w0.cell? ⟨B, 1, none⟩ = some (.int .u64 (Y : Int)) := by rw [hw0, hB]; simp [go_sem]
  have x2 : w0.cell? ⟨B, 2, none⟩ = some (.int .u64 (Z : Int)) := by rw [hw0, hB]; simp [go_sem]
  have HP : Hid (∀ w1 : World, Kp w0 w1 → Calls Tryz.prog 6 #[.int .i64 d, .float .f64 X, .float .f64 Y, .float .f64 Z] w1 fun e w' => ∃ R, e = .returned (.float .f64 R) ∧ (∀ w1 : World, Calls Tryz.prog 5 #[.float .f64 R] w1 fun e w' => e = .returned (.int .u64 (V : Int)) ∧ w' = w1) ∧ Kp w1 w') := fun w1 k => p1 w1 (hT.grown (kw.trans k)) (Fq.Tab.grown hQ (kw.trans k))
  have HR : Hid (∀ w1 : World, Calls Tryz.prog 8 #[.int .i64 d, .int .u64 (X : Int), .int .u64 (Y : Int), .int .u64 (Z : Int)] w1 fun e w' => e = .returned (.int .u64 (V : Int)) ∧ Kp w1 w') := q1
  have HF : Hid (∀ (X : Nat) (w1 : World), Calls Tryz.prog 7 #[.int .u64 (X : Int)] w1 fun e w' => e = .returned (.float .f64 X) ∧ w' = w1) := fl_
  have HW : Hid (w0 = w.alloc (.cells #[.int .u64 (X : Int), .int .u64 (Y : Int), .int .u64 (Z : Int)] 23) ∧ B = w.heap.size ∧ Kp w w0) := ⟨hw0, hB, kw⟩
  clear p1 q1 hw0 hB kw eX eY eZ hm hm' hmz hX hY hZ hd1 hd2 hT hQ
  go_enter Tryz.func3, Tryz.ntmps3
  go_upto_region 1 with fail
  rw [← HW.out.2.1]
  try rw [← HW.out.1]
  go_region_held3 (fun w' => w'.cell? ⟨B, 0, none⟩ = some (.int .u64 (X : Int)) ∧ w'.cell? ⟨B, 1, none⟩ = some (.int .u64 (Y : Int)) ∧ w'.cell? ⟨B, 2, none⟩ = some (.int .u64 (Z : Int))) (refine ⟨kkeep (W := w0) ?_ x0, kkeep (W := w0) ?_ x1, kkeep (W := w0) ?_ x2⟩ <;> ((repeat (first | with_reducible exact kk2 | with_reducible exact kk1 | with_reducible exact Kp.refl _ | with_reducible refine Kp.drew ?_)); done)) (first | (go_at_call 8; refine (HR.out _).mono ?_; rintro e v2 ⟨rfl, k12⟩; have kk2 : Kp w0 v2 := Kp.trans ?q3 k12; (case q3 => ((repeat (first | with_reducible exact kk2 | with_reducible exact kk1 | with_reducible exact Kp.refl _ | with_reducible refine Kp.drew ?_)); done))) | (go_at_call 5; refine (HB.out _).mono ?_; rintro e w7 ⟨rfl, hw7⟩; obtain rfl := hw7.symm; clear hw7) | (go_at_call 6; refine (HP.out _ ?q1).mono ?_; (case q1 => ((repeat (first | with_reducible exact kk2 | with_reducible exact kk1 | with_reducible exact Kp.refl _ | with_reducible refine Kp.drew ?_)); done)); rintro e v1 ⟨R1, rfl, hb1, k01⟩; have kk1 : Kp w0 v1 := Kp.trans ?q2 k01; (case q2 => ((repeat (first | with_reducible exact kk2 | with_reducible exact kk1 | with_reducible exact Kp.refl _ | with_reducible refine Kp.drew ?_)); done)); have HB : Hid (∀ w1 : World, Calls Tryz.prog 5 #[.float .f64 R1] w1 fun e w' => e = .returned (.int .u64 (V : Int)) ∧ w' = w1) := hb1; clear hb1) | (go_at_call 7; refine (HF.out _ _).mono ?_; rintro e w7 ⟨rfl, hw7⟩; obtain rfl := hw7.symm; clear hw7))
  have hk := HW.out.2.2.trans kk2
  clear HP HR HF HB x0 x1 x2 kk1 kk2 k01 k12 HW
  go_wp2
  exact bodyPost_ret (v := .bool true) (by simp [results, Tryz.results3, go_sem]) rfl ⟨rfl, hk⟩
end Go.Proofs.YthngdlifpbhagaaGreatDoor
