import Derived.Test.YtbcjhmdkpkmieaaKPKs
import Derived.Test.YtbcjhmdkpkmieaaKPLa
namespace Go.Proofs.Ytbcjhmdkpkmieaa
open Go.RowKit
open Go
namespace B8
def gdOk (xs : List Int) : Bool := decide (xs.length = 17) && vdD (bv (xs.take 8)) (bv ((xs.drop 8).take 8)) (xs.getD 16 0)
def gdX (xs : List Int) : Nat := if gdOk xs then bv (xs.take 8) else 0
def gdY (xs : List Int) : Nat := if gdOk xs then bv ((xs.drop 8).take 8) else 0
def gdD (xs : List Int) : Int := if gdOk xs then xs.getD 16 0 else 0
def gdE (xs : List Int) : Int := if gdOk xs then 0 else 130
theorem vld_rd (a b : Nat) (ha : a < 18446744073709551616) (hb : b < 18446744073709551616) (h : Fq.vld a b = true) : ∃ L H, Rd a b L H ∧ a = pw L ∧ b = pw H := by
  obtain ⟨L, H, r⟩ := Rd.ex a b ha hb
  refine ⟨L, H, r, ?_⟩
  have e1 := r.2.2.2.1
  have e2 := r.2.2.2.2
  have hs := rd_snd a b L H r
  unfold Fq.vld at h
  by_cases c : Fq.snd a b = true
  · have n1 : a ≠ 9223372036854775808 := by
      intro hh; rw [hh] at h; revert h
      simp
    have n2 : b ≠ 9223372036854775808 := by
      intro hh; rw [hh] at h; revert h
      simp
    rw [← e1, ← e2]
    simp [Fq.rlo, Fq.rhi, c, Fq.pla, n1, n2]
  · have c : Fq.snd a b = false := by simpa using c
    rw [c] at h
    have h := of_decide_eq_true (by simpa using h : decide (a = 9218868437227405312 ∧ b = 18442240474082181120) = true)
    have f1 : Fq.rlo a b = 9218868437227405312 := by simp [Fq.rlo, c]
    have f2 : Fq.rhi a b = 18442240474082181120 := by simp [Fq.rhi, c]
    rw [← e1, ← e2, f1, f2]
    exact h
theorem vdD_vld (a b : Nat) (D : Int) (h : Fq.vld a b = false) : vdD a b D = false := by
  unfold vdD
  rw [h, Bool.false_and, Bool.or_false]
  refine decide_eq_false (fun hh => ?_)
  unfold Fq.vld at h
  rw [decide_eq_true ⟨hh.1, hh.2.1⟩] at h
  cases h
theorem vdD_read (L H : Int) (D : Int) (hd : VdZ L H) : vdD (pw L) (pw H) D = ((decide (pw L = dL (pw L) (pw H) L (dN L H D)) && decide (pw H = dH (pw L) (pw H) L H (dN L H D))) && decide (D = dR (pw L) (pw H) L (dN L H D))) := by
  have r := Rd.of hd
  have i1 := pw_inj L 9218868437227405312 hd.lo (by unfold BdZ; omega)
  have i2 := pw_inj L (-9218868437227405312) hd.lo (by unfold BdZ; omega)
  have i3 := pw_inj H 9218868437227405312 hd.hi (by unfold BdZ; omega)
  have i4 := pw_inj H (-9218868437227405312) hd.hi (by unfold BdZ; omega)
  rw [pw_I] at i1 i3
  rw [pw_MI] at i2 i4
  by_cases c : L = 9218868437227405312
  · have eH : H = -9218868437227405312 := by unfold VdZ at hd; omega
    have eL2 : pw L = 9218868437227405312 := i1.2 c
    have eH2 : pw H = 18442240474082181120 := i4.2 eH
    have hvl : Fq.vld (pw L) (pw H) = true := by unfold Fq.vld; rw [decide_eq_true ⟨eL2, eH2⟩]; rfl
    unfold vdD
    rw [hvl]
    unfold dL dH dR
    rw [eL2, eH2]
    have hN : dN L H D = if D = 4 ∨ D = 8 ∨ D = 12 ∨ D = 16 then 4 else 0 := by
      unfold dN fallN
      rw [decide_eq_true c]
      by_cases c4 : D = 4
      · subst c4; rfl
      by_cases c8 : D = 8
      · subst c8; rfl
      by_cases c12 : D = 12
      · subst c12; rfl
      by_cases c16 : D = 16
      · subst c16; rfl
      rw [if_neg c16, if_neg c12, if_neg c8, if_neg c4, if_neg (by omega)]
    rw [hN]
    by_cases c0 : D = 0
    · subst c0; simp
    by_cases c4 : D = 4
    · subst c4; simp [c]
    · by_cases cs : D = 8 ∨ D = 12 ∨ D = 16
      · rcases cs with rfl | rfl | rfl <;> simp [c]
      · rw [if_neg (show ¬ (D = 4 ∨ D = 8 ∨ D = 12 ∨ D = 16) from by omega)]; simp [c0, c4]
  · have hvl : Fq.vld (pw L) (pw H) = true := by
      have := vld_pla (pw L) (pw H) L H r
      have ep := rd_pla (pw L) (pw H) L H r c
      rw [ep.1, ep.2, decide_eq_false c] at this
      rw [this]; rfl
    unfold vdD
    rw [hvl, decide_eq_false (fun h => c (i1.1 h.1) : ¬ (pw L = 9218868437227405312 ∧ pw H = 18442240474082181120 ∧ D = 0)), decide_eq_false (fun h => c (i1.1 h.1) : ¬ (pw L = 9218868437227405312 ∧ pw H = 18442240474082181120)), show decide (pw L = 9218868437227405312 ∨ pw L = 18442240474082181120) = decide (L = 9218868437227405312 ∨ L = -9218868437227405312) from by congr 1; apply propext; rw [i1, i2], show decide (pw H = 9218868437227405312 ∨ pw H = 18442240474082181120) = decide (H = 9218868437227405312 ∨ H = -9218868437227405312) from by congr 1; apply propext; rw [i3, i4]]
    have hN : dN L H D = fallN D true true (!decide (L = 9218868437227405312 ∨ L = -9218868437227405312) && !decide (H = 9218868437227405312 ∨ H = -9218868437227405312)) := by
      unfold dN
      rw [decide_eq_false c]; rfl
    rw [hN]
    generalize decide (L = 9218868437227405312 ∨ L = -9218868437227405312) = C1
    generalize decide (H = 9218868437227405312 ∨ H = -9218868437227405312) = C2
    unfold dL dH dR
    have nI : pw L ≠ 9218868437227405312 := fun h => c (i1.1 h)
    by_cases c4 : D = 4
    · subst c4; simp [fallN, c]
    by_cases c8 : D = 8
    · subst c8; simp [fallN, c]
    by_cases c12 : D = 12
    · subst c12; simp [fallN, c]
    by_cases c16 : D = 16
    · subst c16; cases C1 <;> cases C2 <;> simp [fallN, c]
    have h0 : ∀ C, fallN D true true C = 0 := fun C => by unfold fallN; rw [if_neg c16, if_neg c12, if_neg c8, if_neg c4]
    rw [h0]
    simp [c4, c8, c12, c16, nI]
theorem getdeco_ (p : Option Addr) (c N : Nat) (xs : List Int) (w : World) (hx : Arr w p xs) (hl : xs.length = N) (hw : Wb xs) (hc : N ≤ c) : Calls Try.prog 27 #[.slice p N c] w fun e w' => e = .returned (.tuple #[.agg #[.float .f64 (gdX xs), .float .f64 (gdY xs), .int .i64 (gdD xs)], .int .i64 (gdE xs)]) ∧ Kp w w' := by
  subst hl
  by_cases h : xs.length = 17
  · obtain ⟨b, off, rfl, hcell⟩ := hx.at (k := 0) (by omega)
    have HC1 : ∀ w : World, Calls Try.prog 35 #[.slice (some ⟨b, off, none⟩) 17 c, .int .i64 0, .int .i64 16] w fun e w' => e = .returned (.slice (some ⟨b, off, none⟩) 16 16) ∧ w' = w := cut_ b off 17 c 0 16 (by omega) (by decide) (by decide)
    have a1 := Arr.part hcell 0 16
    rw [Nat.add_zero, List.drop_zero] at a1
    have l1 : (xs.take 16).length = 16 := by rw [List.length_take]; omega
    have hg : ∀ W : World, Kp w W → Calls Try.prog 24 #[.slice (some ⟨b, off, none⟩) 16 16] W fun e w' => e = .returned (.tuple #[.agg #[.float .f64 (gX (xs.take 16)), .float .f64 (gY (xs.take 16))], .int .i64 (gE (xs.take 16))]) ∧ Kp W w' := fun W k => get_ _ 16 16 _ W (a1.grown k) l1 (hw.take 16) (Nat.le_refl _)
    have e1 : (xs.take 16).take 8 = xs.take 8 := by rw [List.take_take]; rfl
    have e2 : (xs.take 16).drop 8 = (xs.drop 8).take 8 := by rw [List.drop_take]
    have hD := hw 16
    have hc16 := hcell 16 (by omega)
    have lx : (xs.take 8).length = 8 := by rw [List.length_take]; omega
    have ly : ((xs.drop 8).take 8).length = 8 := by rw [List.length_take, List.length_drop]; omega
    have bx := bv_lt8 _ lx (hw.take 8)
    have bY := bv_lt8 _ ly ((hw.drop 8).take 8)
    rw [h]
    unfold gX gY gE gOk at hg
    rw [e1, e2, decide_eq_true l1, Bool.true_and] at hg
    unfold gdX gdY gdD gdE gdOk
    rw [decide_eq_true h, Bool.true_and]
    generalize bv (xs.take 8) = X at hg bx ⊢
    generalize bv ((xs.drop 8).take 8) = Y at hg bY ⊢
    generalize xs.getD 16 0 = D at hD hc16 ⊢
    cases hv : Fq.vld X Y
    · rw [hv] at hg
      rw [vdD_vld X Y D hv]
      obtain ⟨L2, H2, r2⟩ := Rd.ex 0 0 (by decide) (by decide)
      exact gdecA_ b off c 0 0 D hD.1 hD.2 HC1 w hc16 hg _ _ _ (dread_ 0 0 L2 H2 D r2)
    · rw [hv] at hg
      obtain ⟨L, H, r, eX, eY⟩ := vld_rd X Y bx bY hv
      have hr := dread_ X Y L H D r
      have hvd := vdD_read L H D r.vd
      rw [← eX, ← eY] at hvd
      have o1 : ∃ z, BdZ z ∧ dL X Y L (dN L H D) = pw z := by
        unfold dL
        split
        · exact ⟨9218868437227405312, by unfold BdZ; omega, pw_I.symm⟩
        · exact ⟨L, r.vd.lo, rfl⟩
      have o2 : ∃ z, BdZ z ∧ dH X Y L H (dN L H D) = pw z := by
        unfold dH
        split
        · exact ⟨-9218868437227405312, by unfold BdZ; omega, pw_MI.symm⟩
        · exact ⟨H, r.vd.hi, rfl⟩
      obtain ⟨z1, b1, o1⟩ := o1
      obtain ⟨z2, b2, o2⟩ := o2
      have u1 : (FloatKind.f64.format.order X (dL X Y L (dN L H D)) == some Ordering.eq) = decide (X = dL X Y L (dN L H D)) := by
        rw [o1, eX, peq9 L z1 r.vd.lo b1]; congr 1; apply propext; rw [pw_inj L z1 r.vd.lo b1]
      have u2 : (FloatKind.f64.format.order Y (dH X Y L H (dN L H D)) == some Ordering.eq) = decide (Y = dH X Y L H (dN L H D)) := by
        rw [o2, eY, peq9 H z2 r.vd.hi b2]; congr 1; apply propext; rw [pw_inj H z2 r.vd.hi b2]
      cases hvv : vdD X Y D
      · rw [hvv] at hvd
        exact gdecB_ b off c X Y D hD.1 hD.2 HC1 w hc16 hg _ _ _ hr _ _ _ u1 u2 (beqI _ _) hvd.symm
      · rw [hvv] at hvd
        exact gdecC_ b off c X Y D hD.1 hD.2 HC1 w hc16 hg _ _ _ hr _ _ _ u1 u2 (beqI _ _) hvd.symm
  · unfold gdX gdY gdD gdE gdOk
    rw [decide_eq_false h, Bool.false_and]
    exact gdecN_ p _ c (by simp; omega) w
end B8
end Go.Proofs.Ytbcjhmdkpkmieaa
