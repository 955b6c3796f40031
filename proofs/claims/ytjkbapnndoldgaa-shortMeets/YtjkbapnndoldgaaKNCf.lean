import Derived.Test.YtjkbapnndoldgaaKNCa
import Derived.Test.YtjkbapnndoldgaaKNCb
namespace Go.Proofs.Ytjkbapnndoldgaa
open Go.RowKit
set_option maxRecDepth 20000 in
set_option maxHeartbeats 4000000 in
theorem rows_ (X1 X2 Y1 Y2 L1 H1 L2 H2 : Int) (N1 N2 : Bool) (d1 : VdZ L1 H1) (d2 : VdZ L2 H2) (hN1 : N1 = decide (L1 = 9218868437227405312)) (hN2 : N2 = decide (L2 = 9218868437227405312)) (hx : ∀ w : World, Calls Try.prog 34 #[.agg #[.int .u64 X1, .int .u64 X2]] w fun e w' => e = .returned (.agg #[.int .u64 (pI L1), .int .u64 (pI H1)]) ∧ Kp w w') (hy : ∀ w : World, Calls Try.prog 34 #[.agg #[.int .u64 Y1, .int .u64 Y2]] w fun e w' => e = .returned (.agg #[.int .u64 (pI L2), .int .u64 (pI H2)]) ∧ Kp w w') (z : Nat → Int) (hz0 : z 0 = L1) (hz1 : z 1 = H1) (hz2 : z 2 = L2) (hz3 : z 3 = H2) (w : World) : Calls Try.prog 77 #[.agg #[.int .u64 X1, .int .u64 X2], .agg #[.int .u64 Y1, .int .u64 Y2]] w fun e w' => ∃ cs, e = .returned (.tuple #[.agg #[.bool N1, .int .i64 ((plN cs L1 : Nat) : Int), .int .i64 ((plN cs H1 : Nat) : Int)], .agg #[.bool N2, .int .i64 ((plN cs L2 : Nat) : Int), .int .i64 ((plN cs H2 : Nat) : Int)], .int .i64 ((4 * (cs.length + 1) : Nat) : Int)]) ∧ Cut z cs ∧ Kp w w' := by
  have hc : ∀ w : World, Calls Try.prog 104 #[.agg #[.int .u64 (pI L1), .int .u64 (pI H1)], .agg #[.int .u64 (pI L2), .int .u64 (pI H2)]] w fun e w' => ∃ v cs, e = .returned v ∧ U9.Own w' w.heap.size v (cs.map pI) ∧ Cut z cs ∧ Kp w w' := by
    intro w
    have h := cuts_ z (fun j hj => by
      match j, hj with
      | 0, _ => rw [hz0]; exact d1.lo
      | 1, _ => rw [hz1]; exact d1.hi
      | 2, _ => rw [hz2]; exact d2.lo
      | 3, _ => rw [hz3]; exact d2.hi) w
    rw [hz0, hz1, hz2, hz3] at h
    exact h
  have t1 : N1 = true ∧ (pI L1 == 9218868437227405312) = true ∧ (pI H1 == 18442240474082181120) = true ∨ N1 = false ∧ (pI L1 == 9218868437227405312) = false := by
    have e1 := pI_inj L1 9218868437227405312 d1.lo (by unfold BdZ; omega)
    have e2 := pI_inj H1 (-9218868437227405312) d1.hi (by unfold BdZ; omega)
    rw [pI_MI] at e2
    rw [show pI 9218868437227405312 = 9218868437227405312 from by decide] at e1
    unfold VdZ at d1
    by_cases c : L1 = 9218868437227405312
    · exact Or.inl ⟨by rw [hN1]; exact decide_eq_true c, by simpa using e1.2 c, by simpa using e2.2 (by omega)⟩
    · exact Or.inr ⟨by rw [hN1]; exact decide_eq_false c, by simpa using fun h => c (e1.1 h)⟩
  have t2 : N2 = true ∧ (pI L2 == 9218868437227405312) = true ∧ (pI H2 == 18442240474082181120) = true ∨ N2 = false ∧ (pI L2 == 9218868437227405312) = false := by
    have e1 := pI_inj L2 9218868437227405312 d2.lo (by unfold BdZ; omega)
    have e2 := pI_inj H2 (-9218868437227405312) d2.hi (by unfold BdZ; omega)
    rw [pI_MI] at e2
    rw [show pI 9218868437227405312 = 9218868437227405312 from by decide] at e1
    unfold VdZ at d2
    by_cases c : L2 = 9218868437227405312
    · exact Or.inl ⟨by rw [hN2]; exact decide_eq_true c, by simpa using e1.2 c, by simpa using e2.2 (by omega)⟩
    · exact Or.inr ⟨by rw [hN2]; exact decide_eq_false c, by simpa using fun h => c (e1.1 h)⟩
  have HD : Hid (∀ j, j < 4 → BdZ (z j)) := fun j hj => by
      match j, hj with
      | 0, _ => rw [hz0]; exact d1.lo
      | 1, _ => rw [hz1]; exact d1.hi
      | 2, _ => rw [hz2]; exact d2.lo
      | 3, _ => rw [hz3]; exact d2.hi
  have HV : Hid (VdZ L1 H1 ∧ VdZ L2 H2) := ⟨d1, d2⟩
  have z10 : H3 ((((w.alloc (.cells #[.int .u64 X1, .int .u64 X2] 36)).alloc (.cells #[.int .u64 Y1, .int .u64 Y2] 36)).alloc (.cells #[.bool false, .int .i64 0, .int .i64 0] 109)).alloc (.cells #[.bool false, .int .i64 0, .int .i64 0] 109)) (w.heap.size + 2) (.bool false) (.int .i64 0) (.int .i64 0) := by unfold H3; simp [go_sem]
  have z20 : H3 ((((w.alloc (.cells #[.int .u64 X1, .int .u64 X2] 36)).alloc (.cells #[.int .u64 Y1, .int .u64 Y2] 36)).alloc (.cells #[.bool false, .int .i64 0, .int .i64 0] 109)).alloc (.cells #[.bool false, .int .i64 0, .int .i64 0] 109)) (w.heap.size + 3) (.bool false) (.int .i64 0) (.int .i64 0) := by unfold H3; simp [go_sem]
  have y00 : (((((w.alloc (.cells #[.int .u64 X1, .int .u64 X2] 36)).alloc (.cells #[.int .u64 Y1, .int .u64 Y2] 36)).alloc (.cells #[.bool false, .int .i64 0, .int .i64 0] 109)).alloc (.cells #[.bool false, .int .i64 0, .int .i64 0] 109))).cell? ⟨w.heap.size + 1, 0, none⟩ = some (.int .u64 Y1) := by simp [go_sem]
  have y10 : (((((w.alloc (.cells #[.int .u64 X1, .int .u64 X2] 36)).alloc (.cells #[.int .u64 Y1, .int .u64 Y2] 36)).alloc (.cells #[.bool false, .int .i64 0, .int .i64 0] 109)).alloc (.cells #[.bool false, .int .i64 0, .int .i64 0] 109))).cell? ⟨w.heap.size + 1, 1, none⟩ = some (.int .u64 Y2) := by simp [go_sem]
  clear hz0 hz1 hz2 hz3 d1 d2 hN1 hN2
  go_enter Try.func77, Try.ntmps77
  go_upto_region 4 with (first | (go_at_call_of 34 (Value.agg #[.int .u64 X1, .int .u64 X2]); refine (hx _).mono ?_; rintro e w1 ⟨rfl, g1⟩; have k1 : Kp w w1 := Kp.trans (((((Kp.refl w).alloc _).alloc _).alloc _).alloc _) g1; have z1 := H3.keep z10 g1; have z2 := H3.keep z20 g1; have y0 := fun o => kkeep ((Kp.refl w1).alloc o) (kkeep g1 y00); have y1 := fun o => kkeep ((Kp.refl w1).alloc o) (kkeep g1 y10)) | (go_at_call_of 34 (Value.agg #[.int .u64 Y1, .int .u64 Y2]); refine (hy _).mono ?_; rintro e w2 ⟨rfl, g2⟩; have k2 : Kp w w2 := Kp.trans (k1.alloc _) g2; have z1' := H3.keep (H3.past z1 _ _) g2; have z2' := H3.keep (H3.past z2 _ _) g2; have qa := Fq.H2.keep (Fq.H2.new w1 (.int .u64 (pI L1)) (.int .u64 (pI H1)) 36) g2; have qa9 := fun o => Fq.H2.keep qa ((Kp.refl w2).alloc o); have qa0 := fun o => (qa9 o).1; have qa1 := fun o => (qa9 o).2.1) | (go_at_call 104; refine (hc _).mono ?_; rintro e w3 ⟨v, cs, rfl, hown, hcut, g3⟩))
  have k3 : Kp w w3 := Kp.trans (k2.alloc _) g3
  have qA := Fq.H2.keep (qa9 (.cells #[.int .u64 (pI L2), .int .u64 (pI H2)] 36)) g3
  have qB := Fq.H2.keep (Fq.H2.new w2 (.int .u64 (pI L2)) (.int .u64 (pI H2)) 36) g3
  have zA := H3.keep (H3.past z1' #[.int .u64 (pI L2), .int .u64 (pI H2)] 36) g3
  have zB := H3.keep (H3.past z2' #[.int .u64 (pI L2), .int .u64 (pI H2)] 36) g3
  obtain ⟨p, c, rfl, _, _⟩ := hown.arr
  have hlc : (cs.map pI).length = cs.length := List.length_map _
  rw [hlc] at hown ⊢
  obtain ⟨K, hK⟩ : ∃ K, K = cs.length := ⟨_, rfl⟩
  rw [← hK] at hown ⊢
  have HCB : Hid (∀ i, i < cs.length → BdZ (cs.getD i 0)) := fun i hi => by
    obtain ⟨j, hj, e, _⟩ := hcut.2.2.1 i hi
    rw [e]; exact HD.out j hj
  have hpl : ∀ x, BdZ x → ∀ W : World, Kp w3 W → Calls Try.prog 105 #[.int .u64 (pI x), .slice p K c] W fun e w' => e = .returned (.int .i64 ((plN cs x : Nat) : Int)) ∧ w' = W := fun x hx W g => place_ x hx cs HCB.out hcut.1 p K c _ hK W (hown.kp g)
  have hpL1 := hpl L1 HV.out.1.lo
  have hpH1 := hpl H1 HV.out.1.hi
  have hpL2 := hpl L2 HV.out.2.lo
  have hpH2 := hpl H2 HV.out.2.hi
  have HK : Hid (K = cs.length ∧ Cut z cs) := ⟨hK, hcut⟩
  have hK4 : K ≤ 4 := by have := hcut.1; omega
  have he : ((4 * (cs.length + 1) : Nat) : Int) = 4 * ((K : Int) + 1) := by omega
  have HE : Hid (((4 * (cs.length + 1) : Nat) : Int) = 4 * ((K : Int) + 1)) := he
  obtain ⟨W, hW⟩ : ∃ W, W = w3 := ⟨_, rfl⟩
  subst hW
  clear he hK hpl hown hcut HCB hc hx hy z10 z20 y00 y10 k1 k2 z1 z2 z1' z2' y0 y1 qa qa9 qa0 qa1 g1 g2 g3 hlc HD HV
  go_upto_region 4 with fail
  go_cut [10] (fun s10 wx => ∃ g, s10 = .pointer (some ⟨g, 0, none⟩) ∧ H3 wx g (.bool N1) (.int .i64 ((plN cs L1 : Nat) : Int)) (.int .i64 ((plN cs H1 : Nat) : Int)) ∧ W.heap.size ≤ g ∧ Kp W wx)
  case first =>
    rcases t1 with ⟨rfl, t7, t8⟩ | ⟨rfl, t7⟩
    all_goals (
      obtain ⟨x0, x1, x2, x3⟩ := id qA
      go_region_held3 (fun w' => w'.cell? ⟨w1.heap.size, 0, none⟩ = some (.int .u64 (pI L1)) ∧ w'.cell? ⟨w1.heap.size, 1, none⟩ = some (.int .u64 (pI H1))) (first | (with_reducible exact ⟨x0, x1⟩) | (refine ⟨kkeep (W := W) ?_ x0, kkeep (W := W) ?_ x1⟩ <;> ((repeat (first | with_reducible exact Kp.refl _ | with_reducible apply Kp.drew | with_reducible apply Kp.alloc)); done))) (first | (go_at_call 43; refine (Fq.rempty_ _).mono ?_; rintro e w5 ⟨rfl, rfl⟩) | (go_at_call_of 105 (Value.int .u64 (pI L1)); refine (hpL1 _ ?kpL1).mono ?_; (case kpL1 => (repeat (first | with_reducible exact Kp.refl _ | with_reducible apply Kp.drew | with_reducible apply Kp.alloc)); done); rintro e wq ⟨rfl, rfl⟩) | (go_at_call_of 105 (Value.int .u64 (pI H1)); refine (hpH1 _ ?kpH1).mono ?_; (case kpH1 => (repeat (first | with_reducible exact Kp.refl _ | with_reducible apply Kp.drew | with_reducible apply Kp.alloc)); done); rintro e wq ⟨rfl, rfl⟩))
      all_goals (
        go_wp2_with fail
        go_meet
        exact ⟨_, rfl, (by unfold H3; simp [go_sem]), (by omega), (by (repeat (first | with_reducible exact Kp.refl _ | with_reducible apply Kp.drew | with_reducible apply Kp.alloc)))⟩))
  case rest =>
  obtain ⟨gA, rfl, rA, lA, gw⟩ := hcut
  have lA1 : w.heap.size + 3 < gA := Nat.lt_of_lt_of_le (cell_lt zB.1) lA
  clear lA
  replace qB := Fq.H2.keep qB gw
  replace zA := H3.keep zA gw
  replace zB := H3.keep zB gw
  have hpL2' := fun (V : World) (y : Kp wc V) => hpL2 V (Kp.trans gw y)
  have hpH2' := fun (V : World) (y : Kp wc V) => hpH2 V (Kp.trans gw y)
  clear hpL2 hpH2 hpL1 hpH1 qA
  have hpL2 := hpL2'
  have hpH2 := hpH2'
  replace k3 := Kp.trans k3 gw
  clear gw hpL2' hpH2'
  generalize wc = W at qB zA zB rA k3 hpL2 hpH2 ⊢
  go_upto_region 5 with fail
  go_cut [11] (fun s11 wx => ∃ g, s11 = .pointer (some ⟨g, 0, none⟩) ∧ H3 wx g (.bool N2) (.int .i64 ((plN cs L2 : Nat) : Int)) (.int .i64 ((plN cs H2 : Nat) : Int)) ∧ W.heap.size ≤ g ∧ Kp W wx)
  case first =>
    rcases t2 with ⟨rfl, t7, t8⟩ | ⟨rfl, t7⟩
    all_goals (
      obtain ⟨x0, x1, x2, x3⟩ := id qB
      go_region_held3 (fun w' => w'.cell? ⟨w2.heap.size, 0, none⟩ = some (.int .u64 (pI L2)) ∧ w'.cell? ⟨w2.heap.size, 1, none⟩ = some (.int .u64 (pI H2))) (first | (with_reducible exact ⟨x0, x1⟩) | (refine ⟨kkeep (W := W) ?_ x0, kkeep (W := W) ?_ x1⟩ <;> ((repeat (first | with_reducible exact Kp.refl _ | with_reducible apply Kp.drew | with_reducible apply Kp.alloc)); done))) (first | (go_at_call 43; refine (Fq.rempty_ _).mono ?_; rintro e w5 ⟨rfl, rfl⟩) | (go_at_call_of 105 (Value.int .u64 (pI L2)); refine (hpL2 _ ?kpL2).mono ?_; (case kpL2 => (repeat (first | with_reducible exact Kp.refl _ | with_reducible apply Kp.drew | with_reducible apply Kp.alloc)); done); rintro e wq ⟨rfl, rfl⟩) | (go_at_call_of 105 (Value.int .u64 (pI H2)); refine (hpH2 _ ?kpH2).mono ?_; (case kpH2 => (repeat (first | with_reducible exact Kp.refl _ | with_reducible apply Kp.drew | with_reducible apply Kp.alloc)); done); rintro e wq ⟨rfl, rfl⟩))
      all_goals (
        go_wp2_with fail
        go_meet
        exact ⟨_, rfl, (by unfold H3; simp [go_sem]), (by omega), (by (repeat (first | with_reducible exact Kp.refl _ | with_reducible apply Kp.drew | with_reducible apply Kp.alloc)))⟩))
  case rest =>
  obtain ⟨gB, rfl, rB, lB, gw⟩ := hcut
  have lB1 : w.heap.size + 3 < gB := Nat.lt_of_lt_of_le (cell_lt zB.1) lB
  clear lB
  replace zA := H3.keep zA gw
  replace zB := H3.keep zB gw
  replace rA := H3.keep rA gw
  replace k3 := Kp.trans k3 gw
  clear gw hpL2 hpH2 qB
  generalize wc = W at zA zB rA rB k3 ⊢
  obtain ⟨a0, a1, a2, a3, a4, a5⟩ := id rA
  obtain ⟨b0, b1, b2, b3, b4, b5⟩ := id rB
  obtain ⟨c0, c1, c2, c3, c4, c5⟩ := id zA
  obtain ⟨d0, d1, d2, d3, d4, d5⟩ := id zB
  have ea0 : W.drew.cell? ⟨gA, 0, none⟩ = some (.bool N1) := a0
  have ea1 : W.drew.cell? ⟨gA, 1, none⟩ = some (.int .i64 ((plN cs L1 : Nat) : Int)) := a1
  have ea2 : W.drew.cell? ⟨gA, 2, none⟩ = some (.int .i64 ((plN cs H1 : Nat) : Int)) := a2
  have eb0 : W.drew.cell? ⟨gB, 0, none⟩ = some (.bool N2) := b0
  have eb1 : W.drew.cell? ⟨gB, 1, none⟩ = some (.int .i64 ((plN cs L2 : Nat) : Int)) := b1
  have eb2 : W.drew.cell? ⟨gB, 2, none⟩ = some (.int .i64 ((plN cs H2 : Nat) : Int)) := b2
  have n1 : w.heap.size + 2 ≠ gA := by omega
  have n2 : w.heap.size + 2 ≠ gB := by omega
  have n3 : w.heap.size + 3 ≠ gA := by omega
  have n4 : w.heap.size + 3 ≠ gB := by omega
  go_upto_region 6 with fail
  go_region
  all_goals (
    go_wp2
    exact bodyPost_ret (v := .tuple #[.agg #[.bool N1, .int .i64 ((plN cs L1 : Nat) : Int), .int .i64 ((plN cs H1 : Nat) : Int)], .agg #[.bool N2, .int .i64 ((plN cs L2 : Nat) : Int), .int .i64 ((plN cs H2 : Nat) : Int)], .int .i64 (4 * ((K : Int) + 1))]) (by simp [results, Try.results77, go_sem, c0, c1, c2, d0, d1, d2]) rfl ⟨cs, by rw [HE.out], HK.out.2, (by repeat (with_reducible (first | assumption | exact Kp.refl _ | apply Kp.drew | apply Kp.alloc | apply Kp.drewN | (refine Kp.setCell ?_ (by first | omega | (simp <;> omega)) _) | (refine Kp.trans ?_ (by assumption)))))⟩)
end Go.Proofs.Ytjkbapnndoldgaa
