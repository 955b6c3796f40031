import Derived.Test.YthmeefigiekneaaGreatDoorProg
import Derived.Test.YthmeefigiekneaaGreatDoorKXA0
import Derived.Test.YthmeefigiekneaaGreatDoorKXQF
import Derived.Test.YthmeefigiekneaaGreatDoorKQA
import Derived.Test.YthmeefigiekneaaGreatDoorKXQU
import Derived.Test.YthmeefigiekneaaGreatDoorKXEA
import Derived.Test.YthmeefigiekneaaGreatDoorKXNR
import Derived.Test.YthmeefigiekneaaGreatDoorKXM
import Derived.Test.YthmeefigiekneaaGreatDoorKXY
import Derived.Test.YthmeefigiekneaaGreatDoorKQP
import Derived.Test.YthmeefigiekneaaGreatDoorKQB
import Derived.Test.YthmeefigiekneaaGreatDoorKQBT
import Derived.Test.YthmeefigiekneaaGreatDoorKQJd
import Derived.Test.YthmeefigiekneaaGreatDoorKXED
import Derived.Test.YthmeefigiekneaaGreatDoorKMR7Q
import Derived.Test.YthmeefigiekneaaGreatDoorKXMR
import Derived.Test.YthmeefigiekneaaGreatDoorKXM3
import Derived.Test.YthmeefigiekneaaGreatDoorKXO
import Derived.Test.YthmeefigiekneaaGreatDoorKXO3
import Derived.Test.YthmeefigiekneaaGreatDoorKXT
import Derived.Test.YthmeefigiekneaaGreatDoorKXLX
import Derived.Test.YthmeefigiekneaaGreatDoorKRX
import Derived.Test.YthmeefigiekneaaGreatDoorKXRL
import Derived.Test.YthmeefigiekneaaGreatDoorKXCO
import Derived.Test.YthmeefigiekneaaGreatDoorKLN
import Derived.Test.YthmeefigiekneaaGreatDoorKXRN
import Derived.Test.YthmeefigiekneaaGreatDoorKXW4
import Derived.Test.YthmeefigiekneaaGreatDoorKXBY
import Derived.Test.YthmeefigiekneaaGreatDoorKXTZ
import Derived.Test.YthmeefigiekneaaGreatDoorKXG1
import Derived.Test.YthmeefigiekneaaGreatDoorKXH2Q
import Derived.Test.YthmeefigiekneaaGreatDoorKXG4
import Derived.Test.YthmeefigiekneaaGreatDoorKXS1
import Derived.Test.YthmeefigiekneaaGreatDoorKXS6
import Derived.Test.YthmeefigiekneaaGreatDoorKXN
import Derived.Test.YthmeefigiekneaaGreatDoorKXNS
import Derived.Test.YthmeefigiekneaaGreatDoorKXSL
import Derived.Test.YthmeefigiekneaaGreatDoorKXET
import Derived.Test.YthmeefigiekneaaGreatDoorKXEC
import Derived.Test.YthmeefigiekneaaGreatDoorKXMV
import Derived.Test.YthmeefigiekneaaGreatDoorKXKA
import Derived.Test.YthmeefigiekneaaGreatDoorKKXd
import Derived.Test.YthmeefigiekneaaGreatDoorKXKE
import Derived.Test.YthmeefigiekneaaGreatDoorKXS4
import Derived.Test.YthmeefigiekneaaGreatDoorKXEG
import Derived.WalkKit
import Derived.ProofKit
import Derived.RowKit3
import Derived.WalkSpells
import Derived.StillTactics
import Derived.Deep.QuietTactic
import Derived.BigQuiet
import Derived.Below
import Derived.Deep.OwnRows
import Derived.OwnWalk
import Derived.Laws.BitsAllLaws
import Derived.Laws.Slices
import Derived.Laws.Bits64b
import Derived.Laws.FloatArith
import Derived.Deep.RegionHeld3
import Derived.Deep.CutRange
import Derived.Deep.DeepCutAuto
namespace Go.Proofs.YthmeefigiekneaaGreatDoor
open Go.RowKit

set_option linter.unusedVariables false
set_option maxRecDepth 20000 in
set_option maxHeartbeats 400000 in
theorem psubA_ (X Y V R : Nat) (d : Int) (h2 : ∀ w : World, (Op.unary .neg (.float .f64 Y)).run Tryz.prog w = .ok (.float .f64 V) w) (w : World) (h1 : Calls Tryz.prog 40 #[.int .i64 d, .float .f64 X, .float .f64 V] w fun e w' => e = .returned (.float .f64 R) ∧ Kp w w') : Calls Tryz.prog 17 #[.int .i64 d, .float .f64 X, .float .f64 Y] w fun e w' => e = .returned (.float .f64 R) ∧ Kp w w' := by
  go_enter Tryz.func17, Tryz.ntmps17
  go_wp2_with (first | (go_at_call 40; refine h1.mono ?_; rintro e w1 ⟨rfl, g1⟩))
  exact bodyPost_ret (v := .float .f64 R) (by simp [results, Tryz.results17, go_sem]) rfl ⟨rfl, g1⟩

theorem psubF_ (d : Int) (x y : Int) (hx : x.natAbs < 9218868437227405312) (hy : y.natAbs < 9218868437227405312) (hd1 : -9223372036854775808 ≤ d) (hd2 : d < 9223372036854775808) (w : World) (hT : Tab w) (hQ : Fq.Tab w) : Calls Tryz.prog 17 #[.int .i64 d, .float .f64 (pw x), .float .f64 (pw y)] w fun e w' => e = .returned (.float .f64 (sumW d ((Iv (decide (x < 0)) x.natAbs) - (Iv (decide (y < 0)) y.natAbs)))) ∧ Kp w w' := by
  rw [show (Iv (decide (x < 0)) x.natAbs) - (Iv (decide (y < 0)) y.natAbs) = (Iv (decide (x < 0)) x.natAbs) + Iv (!(decide (y < 0))) y.natAbs from by rw [iv_not]; omega]
  exact psubA_ _ _ _ _ d (negW8 (decide (y < 0)) y.natAbs (by omega)) w (paddF_ d (decide (x < 0)) (!(decide (y < 0))) x.natAbs y.natAbs hx hy w hT hQ hd1 hd2)
theorem rnum9_ (L H : Int) (hl : BdZ L) (hh : BdZ H) (w : World) : Calls Tryz.prog 22 #[.agg #[.int .u64 (pI L), .int .u64 (pI H)]] w fun e w' => e = .returned (.bool (!decide (L = 9218868437227405312 ∨ L = -9218868437227405312) && !decide (H = 9218868437227405312 ∨ H = -9218868437227405312))) ∧ Kp w w' := by
  have h1 := isinf_ (decide (L < 0)) L.natAbs (by have := abs_pw L hl; omega)
  have h2 := isinf_ (decide (H < 0)) H.natAbs (by have := abs_pw H hh; omega)
  rw [show decide (L.natAbs = 9218868437227405312) = decide (L = 9218868437227405312 ∨ L = -9218868437227405312) from by congr 1; apply propext; omega] at h1
  rw [show decide (H.natAbs = 9218868437227405312) = decide (H = 9218868437227405312 ∨ H = -9218868437227405312) from by congr 1; apply propext; omega] at h2
  exact rnumA_ (pI L) (pI H) _ _ h1 h2 w
theorem iv_le9 (x y : Int) (h : x ≤ y) : (Iv (decide (x < 0)) x.natAbs) ≤ (Iv (decide (y < 0)) y.natAbs) := by
  have g := iv_lt8 (decide (y < 0)) (decide (x < 0)) y.natAbs x.natAbs
  rw [plz_pw, plz_pw] at g
  omega
theorem blen_gap (x y : Int) (hx : x.natAbs < 9218868437227405312) (hy : y.natAbs < 9218868437227405312) : blen ((Iv (decide (x < 0)) x.natAbs) - (Iv (decide (y < 0)) y.natAbs)).natAbs ≤ 4100 := by
  have b1 := blen_vV x.natAbs hx
  have b2 := blen_vV y.natAbs hy
  have h : ((Iv (decide (x < 0)) x.natAbs) - (Iv (decide (y < 0)) y.natAbs)).natAbs ≤ Fq.vV Ieee.double x.natAbs + Fq.vV Ieee.double y.natAbs := by
    unfold Iv
    split <;> split <;> omega
  have h4 : ∀ K : Nat, blen (Fq.vV Ieee.double x.natAbs) ≤ K → blen (Fq.vV Ieee.double y.natAbs) ≤ K → blen ((Iv (decide (x < 0)) x.natAbs) - (Iv (decide (y < 0)) y.natAbs)).natAbs ≤ K + 1 := fun K u v => by
    rw [blen_le_iff] at u v ⊢
    rw [Nat.pow_succ]
    omega
  have := h4 _ b1 b2
  omega
theorem cancel_both (a b c d : Nat) (ha : a < 18446744073709551616) (hb : b < 18446744073709551616) (hc : c < 18446744073709551616) (hd : d < 18446744073709551616) : ∃ LO HI : Nat, (∀ w : World, Tab w → Fq.Tab w → Calls Tryz.prog 5 #[.agg #[.float .f64 a, .float .f64 b], .agg #[.float .f64 c, .float .f64 d]] w fun e w' => e = .returned (.agg #[.float .f64 LO, .float .f64 HI]) ∧ Kp w w') ∧ (∀ w : World, Calls Tryz.prog 7 #[.agg #[.int .u64 ((a : Nat) : Int), .int .u64 ((b : Nat) : Int)], .agg #[.int .u64 ((c : Nat) : Int), .int .u64 ((d : Nat) : Int)]] w fun e w' => e = .returned (.agg #[.int .u64 ((LO : Nat) : Int), .int .u64 ((HI : Nat) : Int)]) ∧ Kp w w') := by
  obtain ⟨L1, H1, r1⟩ := Rd.ex a b ha hb
  obtain ⟨L2, H2, r2⟩ := Rd.ex c d hc hd
  have d1 := r1.vd
  have d2 := r2.vd
  have hx := r1.call
  have hy := r2.call
  have hrx := rread9_ a b L1 H1 r1
  have hry := rread9_ c d L2 H2 r2
  have he1 := isemp9_ _ _ L1 H1 (Rd.of d1)
  have he2 := isemp9_ _ _ L2 H2 (Rd.of d2)
  have hc1 := common9_ _ _ L1 H1 (Rd.of d1)
  have hc2 := common9_ _ _ L2 H2 (Rd.of d2)
  have hn1 := rnum9_ L1 H1 d1.lo d1.hi
  have hn2 := rnum9_ L2 H2 d2.lo d2.hi
  have hE : ∀ w : World, Calls Tryz.prog 14 #[] w fun e w' => e = .returned (.agg #[.float .f64 9218868437227405312, .float .f64 18442240474082181120]) ∧ Kp w w' := fun w => by
    refine (Fq.empty6_ w).mono ?_
    exact fun e w' h => ⟨h.1, by first | exact h.2 | (rw [h.2]; exact (Kp.refl _).alloc _)⟩
  have hN : ∀ w : World, Calls Tryz.prog 18 #[] w fun e w' => e = .returned (.agg #[.float .f64 18442240474082181120, .float .f64 9218868437227405312]) ∧ Kp w w' := fun w => by
    refine (Fq.entire6_ w).mono ?_
    rintro e w' ⟨rfl, rfl⟩
    exact ⟨rfl, (Kp.refl _).alloc _⟩
  have hrN : ∀ w : World, Calls Tryz.prog 23 #[] w fun e w' => e = .returned (.agg #[.int .u64 18442240474082181120, .int .u64 9218868437227405312]) ∧ Kp w w' := fun w => by
    refine (Fq.rentire_ w).mono ?_
    rintro e w' ⟨rfl, rfl⟩
    exact ⟨rfl, (Kp.refl _).alloc _⟩
  have tt : ∀ x : Int, BdZ x → x ≠ 9218868437227405312 → (pI x == 9218868437227405312) = false := fun x hx h => by
    have g := pI_inj x 9218868437227405312 hx (by unfold BdZ; omega)
    rw [show pI 9218868437227405312 = 9218868437227405312 from by decide] at g
    simp only [beq_eq_false_iff_ne, ne_eq, g]
    exact h
  have te : ∀ L H : Int, VdZ L H → L = 9218868437227405312 → (pI L == 9218868437227405312) = true ∧ (pI H == 18442240474082181120) = true := fun L H h e => by
    have e2 : H = -9218868437227405312 := by unfold VdZ at h; omega
    rw [e, e2]
    exact ⟨by decide, by decide⟩
  by_cases c1 : L1 = 9218868437227405312
  · obtain ⟨tA, tA'⟩ := te L1 H1 d1 c1
    rw [decide_eq_true c1] at he1
    by_cases c2 : L2 = 9218868437227405312
    · obtain ⟨tB, tB'⟩ := te L2 H2 d2 c2
      rw [decide_eq_true c2] at he2
      exact ⟨9218868437227405312, 18442240474082181120, fun w _ _ => canE1_ a b c d _ _ _ _ hx hy hE hN he1 he2 w, fun w => rcanE1_ _ _ _ _ _ _ _ _ hrx hry hrN tA tA' tB tB' w⟩
    · rw [decide_eq_false c2] at he2
      have tB := tt L2 d2.lo c2
      cases hv : (!decide (L2 = 9218868437227405312 ∨ L2 = -9218868437227405312) && !decide (H2 = 9218868437227405312 ∨ H2 = -9218868437227405312)) with
      | true =>
        rw [hv] at hc2 hn2
        exact ⟨9218868437227405312, 18442240474082181120, fun w _ _ => canE2_ a b c d _ _ _ _ hx hy hE hN he1 he2 hc2 w, fun w => rcanE2_ _ _ _ _ _ _ _ _ hrx hry hrN tA tA' tB hn2 w⟩
      | false =>
        rw [hv] at hc2 hn2
        have f1 : (!decide (L1 = 9218868437227405312 ∨ L1 = -9218868437227405312) && !decide (H1 = 9218868437227405312 ∨ H1 = -9218868437227405312)) = false := by simp [c1]
        rw [f1] at hc1 hn1
        exact ⟨18442240474082181120, 9218868437227405312, fun w _ _ => canN1_ a b c d _ _ _ _ hx hy hE hN he1 he2 hc2 hc1 w, fun w => rcanN1_ _ _ _ _ _ _ _ _ hrx hry hrN tA tA' tB hn2 hn1 w⟩
  · rw [decide_eq_false c1] at he1
    have tA := tt L1 d1.lo c1
    cases hv : (!decide (L1 = 9218868437227405312 ∨ L1 = -9218868437227405312) && !decide (H1 = 9218868437227405312 ∨ H1 = -9218868437227405312)) with
    | false =>
      rw [hv] at hc1 hn1
      exact ⟨18442240474082181120, 9218868437227405312, fun w _ _ => canN2_ a b c d _ _ _ _ hx hy hE hN he1 hc1 w, fun w => rcanN2_ _ _ _ _ _ _ _ _ hrx hry hrN tA hn1 w⟩
    | true =>
      rw [hv] at hc1 hn1
      cases hu : (!decide (L2 = 9218868437227405312 ∨ L2 = -9218868437227405312) && !decide (H2 = 9218868437227405312 ∨ H2 = -9218868437227405312)) with
      | false =>
        rw [hu] at hc2 hn2
        exact ⟨18442240474082181120, 9218868437227405312, fun w _ _ => canN3_ a b c d _ _ _ _ hx hy hE hN he1 hc1 hc2 w, fun w => rcanN3_ _ _ _ _ _ _ _ _ hrx hry hrN tA hn1 hn2 w⟩
      | true =>
        rw [hu] at hc2 hn2
        simp at hv hu
        have b1 : L1.natAbs < 9218868437227405312 := by have := abs_pw L1 d1.lo; omega
        have b2 : H1.natAbs < 9218868437227405312 := by have := abs_pw H1 d1.hi; omega
        have b3 : L2.natAbs < 9218868437227405312 := by have := abs_pw L2 d2.lo; omega
        have b4 : H2.natAbs < 9218868437227405312 := by have := abs_pw H2 d2.hi; omega
        have o1 : L1 ≤ H1 := by unfold VdZ at d1; omega
        have o2 : L2 ≤ H2 := by unfold VdZ at d2; omega
        have i1 := iv_le9 L1 H1 o1
        have i2 := iv_le9 L2 H2 o2
        have z : ∀ x : Int, decide (x < 0) = true → x.natAbs ≠ 0 := fun x h => by have := of_decide_eq_true h; omega
        have g1 := gap_ (decide (L1 < 0)) (decide (H1 < 0)) L1.natAbs H1.natAbs b1 b2 (z L1) (z H1)
        have g2 := gap_ (decide (L2 < 0)) (decide (H2 < 0)) L2.natAbs H2.natAbs b3 b4 (z L2) (z H2)
        have q1 := blen_gap L1 H1 b1 b2
        have q2 := blen_gap L2 H2 b3 b4
        obtain ⟨D1, e1⟩ : ∃ D1, D1 = ((Iv (decide (L1 < 0)) L1.natAbs) - (Iv (decide (H1 < 0)) H1.natAbs)).natAbs := ⟨_, rfl⟩
        obtain ⟨D2, e2⟩ : ∃ D2, D2 = ((Iv (decide (L2 < 0)) L2.natAbs) - (Iv (decide (H2 < 0)) H2.natAbs)).natAbs := ⟨_, rfl⟩
        rw [← e1] at g1 q1
        rw [← e2] at g2 q2
        have hcm : ∀ (W : World) (p q : Option Addr) (c d : Nat), Arr W p (dig D1) → Arr W q (dig D2) → (dig D1).length ≤ c → (dig D2).length ≤ d → Calls Tryz.prog 15 #[.slice p (dig D1).length c, .slice q (dig D2).length d] W fun e w' => e = .returned (.int .i64 (cmpN D1 D2)) ∧ Kp W w' := fun W p q c d x1 x2 x3 x4 => ncmpD_ W p q c d D1 D2 x1 x2 x3 x4 q1 q2
        have f1 := fromR_ (decide (L1 < 0)) L1.natAbs b1
        have f2 := fromR_ (decide (H1 < 0)) H1.natAbs b2
        have f3 := fromR_ (decide (L2 < 0)) L2.natAbs b3
        have f4 := fromR_ (decide (H2 < 0)) H2.natAbs b4
        by_cases t : D1 < D2
        · exact ⟨18442240474082181120, 9218868437227405312, fun w _ _ => canF_ a b c d _ _ _ _ hx hy hE hN he1 hc1 hc2 D1 D2 g1 g2 _ hcm (by rw [cmpN_lt t]; decide) w, fun w => rcanF_ _ _ _ _ _ _ _ _ hrx hry hrN tA hn1 hn2 _ _ _ _ _ _ _ _ _ _ rfl rfl f1 f2 f3 f4 (by rw [cmI_lt _ _ (by omega)]; decide) w⟩
        · exact ⟨sumW (-1) ((Iv (decide (L1 < 0)) L1.natAbs) - (Iv (decide (L2 < 0)) L2.natAbs)), sumW 1 ((Iv (decide (H1 < 0)) H1.natAbs) - (Iv (decide (H2 < 0)) H2.natAbs)), fun w hT hQ => canG_ a b c d _ _ _ _ hx hy hE hN he1 hc1 hc2 D1 D2 g1 g2 _ hcm (by unfold cmpN; rw [if_neg t]; split <;> decide) _ _ w (fun W y => psubF_ (-1) L1 L2 b1 b3 (by decide) (by decide) W (Tab.grown hT y) (Fq.Tab.grown hQ y)) (fun W y => psubF_ 1 H1 H2 b2 b4 (by decide) (by decide) W (Tab.grown hT y) (Fq.Tab.grown hQ y)), fun w => rcanG_ _ _ _ _ _ _ _ _ hrx hry hrN tA hn1 hn2 _ _ _ _ _ _ _ _ _ _ rfl rfl f1 f2 f3 f4 (by unfold cmI; rw [if_neg (by omega)]; split <;> decide) w⟩
set_option linter.unusedVariables false
set_option maxRecDepth 20000 in
set_option maxHeartbeats 2000000 in
theorem cplusA_ (a b c d N1 N2 Z1 Z2 : Nat) (hn : ∀ w : World, Calls Tryz.prog 28 #[.agg #[.float .f64 c, .float .f64 d]] w fun e w' => e = .returned (.agg #[.float .f64 N1, .float .f64 N2]) ∧ Kp w w') (w : World) (hc : ∀ W : World, Kp w W → Calls Tryz.prog 5 #[.agg #[.float .f64 a, .float .f64 b], .agg #[.float .f64 N1, .float .f64 N2]] W fun e w' => e = .returned (.agg #[.float .f64 Z1, .float .f64 Z2]) ∧ Kp W w') : Calls Tryz.prog 8 #[.agg #[.float .f64 a, .float .f64 b], .agg #[.float .f64 c, .float .f64 d]] w fun e w' => e = .returned (.agg #[.float .f64 Z1, .float .f64 Z2]) ∧ Kp w w' := by
  go_enter Tryz.func8, Tryz.ntmps8
  go_wp2
  have sW := H6.new w (.float .f64 a) (.float .f64 b) (.float .f64 c) (.float .f64 d) (.float .f64 0) (.float .f64 0) 28 28 28
  have kW : Kp w (((w.alloc (.cells #[.float .f64 a, .float .f64 b] 28)).alloc (.cells #[.float .f64 c, .float .f64 d] 28)).alloc (.cells #[.float .f64 0, .float .f64 0] 28)) := (((Kp.refl w).alloc _).alloc _).alloc _
  generalize (((w.alloc (.cells #[.float .f64 a, .float .f64 b] 28)).alloc (.cells #[.float .f64 c, .float .f64 d] 28)).alloc (.cells #[.float .f64 0, .float .f64 0] 28)) = W at sW kW ⊢
  go_region_held3 (fun w' => w'.cell? ⟨w.heap.size, 0, none⟩ = some (.float .f64 a) ∧ w'.cell? ⟨w.heap.size, 1, none⟩ = some (.float .f64 b) ∧ w'.cell? ⟨w.heap.size + 1, 0, none⟩ = some (.float .f64 c) ∧ w'.cell? ⟨w.heap.size + 1, 1, none⟩ = some (.float .f64 d)) (first | (exact ⟨sW.1.1, sW.1.2.1, sW.2.1.1, sW.2.1.2.1⟩) | (exact ⟨s1.1.1, s1.1.2.1, s1.2.1.1, s1.2.1.2.1⟩) | (exact ⟨s2.1.1, s2.1.2.1, s2.2.1.1, s2.2.1.2.1⟩) | (exact ⟨(World.cell?_setCell_far _ _ _ _ (by simp <;> omega)).trans ((World.cell?_setCell_far _ _ _ _ (by simp <;> omega)).trans s2.1.1), (World.cell?_setCell_far _ _ _ _ (by simp <;> omega)).trans ((World.cell?_setCell_far _ _ _ _ (by simp <;> omega)).trans s2.1.2.1), (World.cell?_setCell_far _ _ _ _ (by simp <;> omega)).trans ((World.cell?_setCell_far _ _ _ _ (by simp <;> omega)).trans s2.2.1.1), (World.cell?_setCell_far _ _ _ _ (by simp <;> omega)).trans ((World.cell?_setCell_far _ _ _ _ (by simp <;> omega)).trans s2.2.1.2.1)⟩)) (first | (go_at_call 28; refine (hn _).mono ?_; rintro e w1 ⟨rfl, g1⟩; have k1 : Kp W w1 := Kp.trans (Kp.drew (Kp.refl _)) g1; have s1 := H6.keep sW k1) | (go_at_call 5; refine (hc _ (Kp.trans kW k1)).mono ?_; rintro e w2 ⟨rfl, g2⟩; have k2 : Kp W w2 := Kp.trans k1 g2; have s2 := H6.keep sW k2; obtain ⟨_, _, r0, r1, r2, r3⟩ := id s2))
  go_wp2
  exact bodyPost_ret (v := .agg #[.float .f64 Z1, .float .f64 Z2]) (by simp [results, Tryz.results8, go_sem, r0, r1]) rfl ⟨rfl, ((Kp.trans kW k2).setCell (by simp <;> omega) _).setCell (by simp <;> omega) _⟩
set_option maxRecDepth 20000 in
set_option maxHeartbeats 2000000 in
theorem rcplusA_ (a b c d N1 N2 Z1 Z2 : Int) (hn : ∀ w : World, Calls Tryz.prog 29 #[.agg #[.int .u64 c, .int .u64 d]] w fun e w' => e = .returned (.agg #[.int .u64 N1, .int .u64 N2]) ∧ Kp w w') (w : World) (hc : ∀ W : World, Kp w W → Calls Tryz.prog 7 #[.agg #[.int .u64 a, .int .u64 b], .agg #[.int .u64 N1, .int .u64 N2]] W fun e w' => e = .returned (.agg #[.int .u64 Z1, .int .u64 Z2]) ∧ Kp W w') : Calls Tryz.prog 9 #[.agg #[.int .u64 a, .int .u64 b], .agg #[.int .u64 c, .int .u64 d]] w fun e w' => e = .returned (.agg #[.int .u64 Z1, .int .u64 Z2]) ∧ Kp w w' := by
  go_enter Tryz.func9, Tryz.ntmps9
  go_wp2
  have sW := H6.new w (.int .u64 a) (.int .u64 b) (.int .u64 c) (.int .u64 d) (.int .u64 0) (.int .u64 0) 24 24 24
  have kW : Kp w (((w.alloc (.cells #[.int .u64 a, .int .u64 b] 24)).alloc (.cells #[.int .u64 c, .int .u64 d] 24)).alloc (.cells #[.int .u64 0, .int .u64 0] 24)) := (((Kp.refl w).alloc _).alloc _).alloc _
  generalize (((w.alloc (.cells #[.int .u64 a, .int .u64 b] 24)).alloc (.cells #[.int .u64 c, .int .u64 d] 24)).alloc (.cells #[.int .u64 0, .int .u64 0] 24)) = W at sW kW ⊢
  go_region_held3 (fun w' => w'.cell? ⟨w.heap.size, 0, none⟩ = some (.int .u64 a) ∧ w'.cell? ⟨w.heap.size, 1, none⟩ = some (.int .u64 b) ∧ w'.cell? ⟨w.heap.size + 1, 0, none⟩ = some (.int .u64 c) ∧ w'.cell? ⟨w.heap.size + 1, 1, none⟩ = some (.int .u64 d)) (first | (exact ⟨sW.1.1, sW.1.2.1, sW.2.1.1, sW.2.1.2.1⟩) | (exact ⟨s1.1.1, s1.1.2.1, s1.2.1.1, s1.2.1.2.1⟩) | (exact ⟨s2.1.1, s2.1.2.1, s2.2.1.1, s2.2.1.2.1⟩) | (exact ⟨(World.cell?_setCell_far _ _ _ _ (by simp <;> omega)).trans ((World.cell?_setCell_far _ _ _ _ (by simp <;> omega)).trans s2.1.1), (World.cell?_setCell_far _ _ _ _ (by simp <;> omega)).trans ((World.cell?_setCell_far _ _ _ _ (by simp <;> omega)).trans s2.1.2.1), (World.cell?_setCell_far _ _ _ _ (by simp <;> omega)).trans ((World.cell?_setCell_far _ _ _ _ (by simp <;> omega)).trans s2.2.1.1), (World.cell?_setCell_far _ _ _ _ (by simp <;> omega)).trans ((World.cell?_setCell_far _ _ _ _ (by simp <;> omega)).trans s2.2.1.2.1)⟩)) (first | (go_at_call 29; refine (hn _).mono ?_; rintro e w1 ⟨rfl, g1⟩; have k1 : Kp W w1 := Kp.trans (Kp.drew (Kp.refl _)) g1; have s1 := H6.keep sW k1) | (go_at_call 7; refine (hc _ (Kp.trans kW k1)).mono ?_; rintro e w2 ⟨rfl, g2⟩; have k2 : Kp W w2 := Kp.trans k1 g2; have s2 := H6.keep sW k2; obtain ⟨_, _, r0, r1, r2, r3⟩ := id s2))
  go_wp2
  exact bodyPost_ret (v := .agg #[.int .u64 Z1, .int .u64 Z2]) (by simp [results, Tryz.results9, go_sem, r0, r1]) rfl ⟨rfl, ((Kp.trans kW k2).setCell (by simp <;> omega) _).setCell (by simp <;> omega) _⟩
set_option linter.unusedVariables false
set_option maxRecDepth 20000 in
set_option maxHeartbeats 1000000 in
theorem in9_ (a b : Nat) (w : World) : Calls Tryz.prog 6 #[.agg #[.int .u64 ((a : Nat) : Int), .int .u64 ((b : Nat) : Int)]] w fun e w' => e = .returned (.agg #[.float .f64 a, .float .f64 b]) ∧ Kp w w' := by
  have h1 := Fq.ff64 a
  have h2 := Fq.ff64 b
  generalize (a : Int) = X at h1 ⊢
  generalize (b : Int) = Y at h2 ⊢
  go_enter Tryz.func6, Tryz.ntmps6
  go_wp2
  go_region_held3 (fun w' => w'.cell? ⟨w.heap.size, 0, none⟩ = some (.int .u64 X) ∧ w'.cell? ⟨w.heap.size, 1, none⟩ = some (.int .u64 Y)) (simp [go_sem]) (fail)
  go_wp2
  exact bodyPost_ret (v := .agg #[.float .f64 a, .float .f64 b]) (by simp [results, Tryz.results6, go_sem]) rfl ⟨rfl, (by repeat (with_reducible (first | assumption | exact Kp.refl _ | apply Kp.drew | apply Kp.alloc | apply Kp.drewN | (refine Kp.setCell ?_ (by first | omega | (simp <;> omega)) _) | (refine Kp.trans ?_ (by assumption)))))⟩
set_option maxRecDepth 20000 in
set_option maxHeartbeats 1000000 in
theorem out9_ (a b : Nat) (w : World) : Calls Tryz.prog 4 #[.agg #[.float .f64 a, .float .f64 b]] w fun e w' => e = .returned (.agg #[.int .u64 ((a : Nat) : Int), .int .u64 ((b : Nat) : Int)]) ∧ Kp w w' := by
  have h1 := Fq.fb64 a
  have h2 := Fq.fb64 b
  generalize (a : Int) = X at h1 ⊢
  generalize (b : Int) = Y at h2 ⊢
  go_enter Tryz.func4, Tryz.ntmps4
  go_wp2
  go_region_held3 (fun w' => w'.cell? ⟨w.heap.size, 0, none⟩ = some (.float .f64 a) ∧ w'.cell? ⟨w.heap.size, 1, none⟩ = some (.float .f64 b)) (simp [go_sem, World.cell?_alloc_past]) (fail)
  go_wp2
  exact bodyPost_ret (v := .agg #[.int .u64 X, .int .u64 Y]) (by simp [results, Tryz.results4, go_sem]) rfl ⟨rfl, (by repeat (with_reducible (first | assumption | exact Kp.refl _ | apply Kp.drew | apply Kp.alloc | apply Kp.drewN | (refine Kp.setCell ?_ (by first | omega | (simp <;> omega)) _) | (refine Kp.trans ?_ (by assumption)))))⟩

theorem rnegX_ (a b : Nat) (ha : a < 18446744073709551616) (hb : b < 18446744073709551616) (w : World) : Calls Tryz.prog 29 #[.agg #[.int .u64 ((a : Nat) : Int), .int .u64 ((b : Nat) : Int)]] w fun e w' => e = .returned (.agg #[.int .u64 ((opP (Fq.rhi a b) : Nat) : Int), .int .u64 ((opP (Fq.rlo a b) : Nat) : Int)]) ∧ Kp w w' := by
  by_cases s1 : Fq.snd a b = true
  · obtain ⟨n, m, l1, e1⟩ := rlo_w a b ha hb
    obtain ⟨g, r, l2, e2⟩ := rhi_w a b ha hb
    have q1 : opP (Fq.rhi a b) = Fq.pla (Fq.wD (!g) r) := by rw [e2, opP_w g r (by omega)]; rfl
    have q2 : opP (Fq.rlo a b) = Fq.pla (Fq.wD (!n) m) := by rw [e1, opP_w n m (by omega)]; rfl
    rw [q1, q2]
    have i1 := rlo_inf a b s1 n m e1
    have i2 := rhi_inf a b s1 g r e2
    exact rneg7c_ _ _ _ _ (SV1 n m g r) (SV1 (!g) r (!n) m) w (fun W _ => ofSound_ a b ha hb s1 n g m r l1 l2 e1 e2 W) (fun W v _ h => minusS_ n g m r W v h) (fun W v _ h => leastV_ (!g) (!n) r m l2 l1 (fun h => by rw [i2 h]; rfl) (fun h => by rw [i1 h]; rfl) W v h)
  · have s1 : Fq.snd a b = false := by simpa using s1
    have q1 : opP (Fq.rhi a b) = 9218868437227405312 := by rw [show Fq.rhi a b = 18442240474082181120 from by rw [Fq.rhi, if_neg (by rw [s1]; decide)]]; decide +kernel
    have q2 : opP (Fq.rlo a b) = 18442240474082181120 := by rw [show Fq.rlo a b = 9218868437227405312 from by rw [Fq.rlo, if_neg (by rw [s1]; decide)]]; decide +kernel
    rw [q1, q2]
    exact rneg7c_ _ _ _ _ (fun _ v => SV0 true v) (fun _ v => SV0 true v) w (fun W _ => ofEmpty_ a b ha hb s1 W) (fun W v _ h => minusX_ W v h) (fun W v _ h => leastN_ W v h)

theorem opP_lt (x : Nat) (h : x < 18446744073709551616) : opP x < 18446744073709551616 := by
  unfold opP
  repeat' split
  all_goals omega
theorem cplus_both (a b c d : Nat) (ha : a < 18446744073709551616) (hb : b < 18446744073709551616) (hc : c < 18446744073709551616) (hd : d < 18446744073709551616) : ∃ LO HI : Nat, (∀ w : World, Tab w → Fq.Tab w → Calls Tryz.prog 8 #[.agg #[.float .f64 a, .float .f64 b], .agg #[.float .f64 c, .float .f64 d]] w fun e w' => e = .returned (.agg #[.float .f64 LO, .float .f64 HI]) ∧ Kp w w') ∧ (∀ w : World, Calls Tryz.prog 9 #[.agg #[.int .u64 ((a : Nat) : Int), .int .u64 ((b : Nat) : Int)], .agg #[.int .u64 ((c : Nat) : Int), .int .u64 ((d : Nat) : Int)]] w fun e w' => e = .returned (.agg #[.int .u64 ((LO : Nat) : Int), .int .u64 ((HI : Nat) : Int)]) ∧ Kp w w') := by
  obtain ⟨LO, HI, h1, h2⟩ := cancel_both a b (opP (Fq.rhi c d)) (opP (Fq.rlo c d)) ha hb (opP_lt _ (Fq.rhi_lt c d hd)) (opP_lt _ (Fq.rlo_lt c d hc))
  exact ⟨LO, HI, fun w hT hQ => cplusA_ a b c d _ _ _ _ (neg6_ c d hc hd) w (fun W y => h1 W (Tab.grown hT y) (Fq.Tab.grown hQ y)), fun w => rcplusA_ _ _ _ _ _ _ _ _ (rnegX_ c d hc hd) w (fun W _ => h2 W)⟩
set_option maxRecDepth 20000 in
set_option maxHeartbeats 4000000 in
theorem cancelsA_ (X1 X2 Y1 Y2 Z1 Z2 U1 U2 : Int) (A1 A2 B1 B2 P1 P2 Q1 Q2 : Nat) (hin1 : ∀ w : World, Calls Tryz.prog 6 #[.agg #[.int .u64 X1, .int .u64 X2]] w fun e w' => e = .returned (.agg #[.float .f64 A1, .float .f64 A2]) ∧ Kp w w') (hin2 : ∀ w : World, Calls Tryz.prog 6 #[.agg #[.int .u64 Y1, .int .u64 Y2]] w fun e w' => e = .returned (.agg #[.float .f64 B1, .float .f64 B2]) ∧ Kp w w') (hp1 : ∀ w : World, Tab w → Fq.Tab w → Calls Tryz.prog 5 #[.agg #[.float .f64 A1, .float .f64 A2], .agg #[.float .f64 B1, .float .f64 B2]] w fun e w' => e = .returned (.agg #[.float .f64 P1, .float .f64 P2]) ∧ Kp w w') (hp2 : ∀ w : World, Tab w → Fq.Tab w → Calls Tryz.prog 8 #[.agg #[.float .f64 A1, .float .f64 A2], .agg #[.float .f64 B1, .float .f64 B2]] w fun e w' => e = .returned (.agg #[.float .f64 Q1, .float .f64 Q2]) ∧ Kp w w') (ho1 : ∀ w : World, Calls Tryz.prog 4 #[.agg #[.float .f64 P1, .float .f64 P2]] w fun e w' => e = .returned (.agg #[.int .u64 Z1, .int .u64 Z2]) ∧ Kp w w') (ho2 : ∀ w : World, Calls Tryz.prog 4 #[.agg #[.float .f64 Q1, .float .f64 Q2]] w fun e w' => e = .returned (.agg #[.int .u64 U1, .int .u64 U2]) ∧ Kp w w') (hr1 : ∀ w : World, Calls Tryz.prog 7 #[.agg #[.int .u64 X1, .int .u64 X2], .agg #[.int .u64 Y1, .int .u64 Y2]] w fun e w' => e = .returned (.agg #[.int .u64 Z1, .int .u64 Z2]) ∧ Kp w w') (hr2 : ∀ w : World, Calls Tryz.prog 9 #[.agg #[.int .u64 X1, .int .u64 X2], .agg #[.int .u64 Y1, .int .u64 Y2]] w fun e w' => e = .returned (.agg #[.int .u64 U1, .int .u64 U2]) ∧ Kp w w') (w : World) (HT : ∀ W : World, Kp w W → Tab W ∧ Fq.Tab W) : Calls Tryz.prog 3 #[.agg #[.int .u64 X1, .int .u64 X2], .agg #[.int .u64 Y1, .int .u64 Y2]] w fun e w' => e = .returned (.bool true) ∧ Kp w w' := by
  go_enter Tryz.func3, Tryz.ntmps3
  go_wp2
  refine Fq.wp_region_grow (by kernel_rfl) (by kernel_rfl) (fun ι _ G hG hall => ?_)
  have cc0 : ∀ n, (G n).cell? ⟨w.heap.size, 0, none⟩ = some (.int .u64 X1) := fun n => Fq.gkeep (hG n) (by simp [go_sem])
  have cc1 : ∀ n, (G n).cell? ⟨w.heap.size, 1, none⟩ = some (.int .u64 X2) := fun n => Fq.gkeep (hG n) (by simp [go_sem])
  have cc2 : ∀ n, (G n).cell? ⟨w.heap.size + 1, 0, none⟩ = some (.int .u64 Y1) := fun n => Fq.gkeep (hG n) (by simp [go_sem])
  have cc3 : ∀ n, (G n).cell? ⟨w.heap.size + 1, 1, none⟩ = some (.int .u64 Y2) := fun n => Fq.gkeep (hG n) (by simp [go_sem])
  have kT : ∀ n, Tab (G n) ∧ Fq.Tab (G n) := fun n => HT _ (Kp.trans (((Kp.refl w).alloc _).alloc _) (hG n))
  repeat (go_big_quiet_step (first | (go_at_call_of 6 (Value.agg #[.int .u64 X1, .int .u64 X2]); exact (hin1 _).mono (fun e w' h => ⟨h.1, hall _ (Fq.gtrans (hG _) h.2)⟩)) | (go_at_call_of 6 (Value.agg #[.int .u64 Y1, .int .u64 Y2]); exact (hin2 _).mono (fun e w' h => ⟨h.1, hall _ (Fq.gtrans (hG _) h.2)⟩)) | (go_at_call 5; exact (hp1 _ (kT _).1 (kT _).2).mono (fun e w' h => ⟨h.1, hall _ (Fq.gtrans (hG _) h.2)⟩)) | (go_at_call 8; exact (hp2 _ (kT _).1 (kT _).2).mono (fun e w' h => ⟨h.1, hall _ (Fq.gtrans (hG _) h.2)⟩)) | (go_at_call_of 4 (Value.float .f64 P1); exact (ho1 _).mono (fun e w' h => ⟨h.1, hall _ (Fq.gtrans (hG _) h.2)⟩)) | (go_at_call_of 4 (Value.float .f64 Q1); exact (ho2 _).mono (fun e w' h => ⟨h.1, hall _ (Fq.gtrans (hG _) h.2)⟩)) | (go_at_call 7; exact (hr1 _).mono (fun e w' h => ⟨h.1, hall _ (Fq.gtrans (hG _) h.2)⟩)) | (go_at_call 9; exact (hr2 _).mono (fun e w' h => ⟨h.1, hall _ (Fq.gtrans (hG _) h.2)⟩))))
  refine wpQuiet_nil ?_
  rintro _ ⟨nq, rfl⟩
  have gq : Kp _ (G nq) := hG nq
  clear cc0 cc1 cc2 cc3 hall hG kT HT
  have gq2 := Kp.trans (((Kp.refl w).alloc _).alloc _) gq
  go_wp2
  exact bodyPost_ret (v := .bool true) (by simp [results, Tryz.results3, go_sem]) rfl ⟨rfl, gq2⟩
theorem cancels_ (a b c d : Nat) (ha : a < 18446744073709551616) (hb : b < 18446744073709551616) (hc : c < 18446744073709551616) (hd : d < 18446744073709551616) (w : World) (hT : Tab w) (hQ : Fq.Tab w) : Calls Tryz.prog 3 #[.agg #[.int .u64 ((a : Nat) : Int), .int .u64 ((b : Nat) : Int)], .agg #[.int .u64 ((c : Nat) : Int), .int .u64 ((d : Nat) : Int)]] w fun e w' => e = .returned (.bool true) ∧ Kp w w' := by
  obtain ⟨P1, P2, p1, p2⟩ := cancel_both a b c d ha hb hc hd
  obtain ⟨Q1, Q2, q1, q2⟩ := cplus_both a b c d ha hb hc hd
  exact cancelsA_ _ _ _ _ _ _ _ _ a b c d P1 P2 Q1 Q2 (in9_ a b) (in9_ c d) p1 q1 (out9_ P1 P2) (out9_ Q1 Q2) p2 q2 w (fun W y => ⟨Tab.grown hT y, Fq.Tab.grown hQ y⟩)
end Go.Proofs.YthmeefigiekneaaGreatDoor
