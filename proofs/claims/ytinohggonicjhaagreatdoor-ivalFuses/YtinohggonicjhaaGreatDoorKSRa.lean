import Derived.Test.YtinohggonicjhaaGreatDoorKIMm
import Derived.Test.YtinohggonicjhaaGreatDoorKIMp
namespace Go.Proofs.YtinohggonicjhaaGreatDoor
open Go.RowKit
set_option maxRecDepth 20000 in
set_option maxHeartbeats 1000000 in
theorem rmulO_ (sa sb : Bool) (a1 a2 b1 b2 : Nat) (P1 P2 Q1 Q2 : Option Addr) (C1 C2 D1 D2 : Nat) (w : World) (h1 : Arr w P1 (dig a1)) (l1 : (dig a1).length ≤ C1) (h2 : Arr w P2 (dig a2)) (l2 : (dig a2).length ≤ C2) (h3 : Arr w Q1 (dig b1)) (l3 : (dig b1).length ≤ D1) (h4 : Arr w Q2 (dig b2)) (l4 : (dig b2).length ≤ D2) (k1 : len32 a1 ≤ 4000) (k2 : len32 a2 ≤ 4000) (k3 : len32 b1 ≤ 4000) (k4 : len32 b2 ≤ 4000) (z2 : a2 ≠ 0) (z4 : b2 ≠ 0) (X D : Nat) (hX : X = a1 * b1) (hD : D = a2 * b2) (lX : len32 X ≤ 16000) (lD : len32 D ≤ 16000) :
    Calls Tryz.prog 79 #[.agg #[.bool sa, .slice P1 (dig a1).length C1, .slice P2 (dig a2).length C2], .agg #[.bool sb, .slice Q1 (dig b1).length D1, .slice Q2 (dig b2).length D2]] w fun e w' => ∃ (vn vd : Value) (a' b' : Nat) (ng : Bool), e = .returned (.agg #[.bool ng, vn, vd]) ∧ Own w' w.heap.size vn (dig a') ∧ Own w' w.heap.size vd (dig b') ∧ (FracOf X D 0 a' b' ∧ (X ≠ 0 → ng = (sa ^^ sb))) ∧ Kp w w' := by
  have hz : D ≠ 0 := by rw [hD]; exact Nat.mul_ne_zero z2 z4
  obtain ⟨E1, g1⟩ : ∃ E, E = (dig a1).length := ⟨_, rfl⟩
  obtain ⟨E2, g2⟩ : ∃ E, E = (dig a2).length := ⟨_, rfl⟩
  obtain ⟨E3, g3⟩ : ∃ E, E = (dig b1).length := ⟨_, rfl⟩
  obtain ⟨E4, g4⟩ : ∃ E, E = (dig b2).length := ⟨_, rfl⟩
  rw [← g1, ← g2, ← g3, ← g4]
  obtain ⟨B, hB⟩ : ∃ B, B = w.heap.size := ⟨_, rfl⟩
  obtain ⟨wA, hwA⟩ : ∃ wA, wA = w.alloc (.cells #[.bool sa, .slice P1 E1 C1, .slice P2 E2 C2] 48) := ⟨_, rfl⟩
  obtain ⟨wB, hwB⟩ : ∃ wB, wB = wA.alloc (.cells #[.bool sb, .slice Q1 E3 D1, .slice Q2 E4 D2] 48) := ⟨_, rfl⟩
  obtain ⟨w0, hw0⟩ : ∃ w0, w0 = wB.alloc (.cells #[.bool false, .slice none 0 0, .slice none 0 0] 48) := ⟨_, rfl⟩
  have sA : wA.heap.size = B + 1 := by rw [hwA, hB]; simp
  have sB : wB.heap.size = B + 2 := by rw [hwB]; simp [sA]
  have kAB : Kp wA wB := by rw [hwB]; exact (Kp.refl wA).alloc _
  have x0 : wB.cell? ⟨B, 0, none⟩ = some (.bool sa) := kkeep kAB (by rw [hwA, hB]; simp [go_sem])
  have x1 : wB.cell? ⟨B, 1, none⟩ = some (.slice P1 E1 C1) := kkeep kAB (by rw [hwA, hB]; simp [go_sem])
  have x2 : wB.cell? ⟨B, 2, none⟩ = some (.slice P2 E2 C2) := kkeep kAB (by rw [hwA, hB]; simp [go_sem])
  have y0 : wB.cell? ⟨B + 1, 0, none⟩ = some (.bool sb) := by rw [hwB, ← sA]; simp [go_sem]
  have y1 : wB.cell? ⟨B + 1, 1, none⟩ = some (.slice Q1 E3 D1) := by rw [hwB, ← sA]; simp [go_sem]
  have y2 : wB.cell? ⟨B + 1, 2, none⟩ = some (.slice Q2 E4 D2) := by rw [hwB, ← sA]; simp [go_sem]
  have r0 : w0.cell? ⟨B + 2, 0, none⟩ = some (.bool false) := by rw [hw0, ← sB]; simp [go_sem]
  have r1 : w0.cell? ⟨B + 2, 1, none⟩ = some (.slice none 0 0) := by rw [hw0, ← sB]; simp [go_sem]
  have r2 : w0.cell? ⟨B + 2, 2, none⟩ = some (.slice none 0 0) := by rw [hw0, ← sB]; simp [go_sem]
  have f0 : w0.frozen? ⟨B + 2, 0, none⟩ = false := by rw [hw0, ← sB]; simp [go_sem]
  have f1 : w0.frozen? ⟨B + 2, 1, none⟩ = false := by rw [hw0, ← sB]; simp [go_sem]
  have f2 : w0.frozen? ⟨B + 2, 2, none⟩ = false := by rw [hw0, ← sB]; simp [go_sem]
  have kw : Kp w w0 := by rw [hw0, hwB, hwA]; exact (((Kp.refl w).alloc _).alloc _).alloc _
  have kS : Kp wB w0 := by rw [hw0]; exact (Kp.refl wB).alloc _
  have kD : Kp wB w0.drew := kS.drew
  have hge : wB.heap.size ≤ (⟨B + 2, 0, none⟩ : Addr).block := by simp only; omega
  have hlt := cell_lt r0
  have HP1 : Hid (∀ W : World, Kp w0 W → Calls Tryz.prog 116 #[.slice P1 E1 C1, .slice Q1 E3 D1] W fun e w' => ∃ p c, e = .returned (.slice p (dig X).length c) ∧ Arr w' p (dig X) ∧ (dig X).length ≤ c ∧ Kp W w') := by
    show ∀ W : World, Kp w0 W → Calls Tryz.prog 116 #[.slice P1 E1 C1, .slice Q1 E3 D1] W fun e w' => ∃ p c, e = .returned (.slice p (dig X).length c) ∧ Arr w' p (dig X) ∧ (dig X).length ≤ c ∧ Kp W w'
    intro W k
    rw [hX]; exact timesR _ _ a1 b1 W ⟨P1, C1, by rw [g1], h1.grown (kw.trans k), l1⟩ ⟨Q1, D1, by rw [g3], h3.grown (kw.trans k), l3⟩ (by omega) (by omega)
  have HP2 : Hid (∀ W : World, Kp w0 W → Calls Tryz.prog 116 #[.slice P2 E2 C2, .slice Q2 E4 D2] W fun e w' => ∃ p c, e = .returned (.slice p (dig D).length c) ∧ Arr w' p (dig D) ∧ (dig D).length ≤ c ∧ Kp W w') := by
    show ∀ W : World, Kp w0 W → Calls Tryz.prog 116 #[.slice P2 E2 C2, .slice Q2 E4 D2] W fun e w' => ∃ p c, e = .returned (.slice p (dig D).length c) ∧ Arr w' p (dig D) ∧ (dig D).length ≤ c ∧ Kp W w'
    intro W k
    rw [hD]; exact timesR _ _ a2 b2 W ⟨P2, C2, by rw [g2], h2.grown (kw.trans k), l2⟩ ⟨Q2, D2, by rw [g4], h4.grown (kw.trans k), l4⟩ (by omega) (by omega)
  obtain ⟨NX, hNX⟩ : ∃ N, N = (dig X).length := ⟨_, rfl⟩
  obtain ⟨ND, hND⟩ : ∃ N, N = (dig D).length := ⟨_, rfl⟩
  obtain ⟨st, hst⟩ : ∃ st, st = (sa ^^ sb) := ⟨_, rfl⟩
  have hst2 : (sa != sb) = st := by rw [hst]
  have hst3 : (!decide (sa = sb)) = st := by rw [hst]; cases sa <;> cases sb <;> rfl
  have hst4 : (!(sa == sb)) = st := by rw [hst]; cases sa <;> cases sb <;> rfl
  have HFR : Hid (∀ (p : Option Addr) (c : Nat) (q : Option Addr) (d : Nat) (W : World), Kp w0 W → Arr W p (dig X) → (dig X).length ≤ c → Arr W q (dig D) → (dig D).length ≤ d → Calls Tryz.prog 101 #[.bool st, .slice p (dig X).length c, .slice q (dig D).length d, .int .i64 0] W fun e w' => ∃ (vn vd : Value) (a' b' : Nat) (ng : Bool), e = .returned (.agg #[.bool ng, vn, vd]) ∧ Own w' W.heap.size vn (dig a') ∧ Own w' W.heap.size vd (dig b') ∧ (FracOf X D 0 a' b' ∧ (X ≠ 0 → ng = st)) ∧ Kp W w') := by
    show ∀ (p : Option Addr) (c : Nat) (q : Option Addr) (d : Nat) (W : World), Kp w0 W → Arr W p (dig X) → (dig X).length ≤ c → Arr W q (dig D) → (dig D).length ≤ d → Calls Tryz.prog 101 #[.bool st, .slice p (dig X).length c, .slice q (dig D).length d, .int .i64 0] W fun e w' => ∃ (vn vd : Value) (a' b' : Nat) (ng : Bool), e = .returned (.agg #[.bool ng, vn, vd]) ∧ Own w' W.heap.size vn (dig a') ∧ Own w' W.heap.size vd (dig b') ∧ (FracOf X D 0 a' b' ∧ (X ≠ 0 → ng = st)) ∧ Kp W w'
    intro p c q d W kk ar ll ar' ll'
    have g := frac_ st (.slice p (dig X).length c) (.slice q (dig D).length d) (dig X) (dig D) 0 W ⟨p, c, rfl, ar, ll⟩ ⟨q, d, rfl, ar', ll'⟩ (Wd_dig _) (Wd_dig _) (by change len32 _ ≤ _; omega) (by change len32 _ ≤ _; omega) (by rw [val_dig]; exact hz) (by decide)
    rw [val_dig, val_dig] at g
    exact g
  rw [← hNX, ← hND] at HFR
  rw [← hNX] at HP1
  rw [← hND] at HP2
  rw [← hst]
  have HW : Hid (w0 = wB.alloc (.cells #[.bool false, .slice none 0 0, .slice none 0 0] 48) ∧ wB = wA.alloc (.cells #[.bool sb, .slice Q1 E3 D1, .slice Q2 E4 D2] 48) ∧ wA = w.alloc (.cells #[.bool sa, .slice P1 E1 C1, .slice P2 E2 C2] 48) ∧ B = w.heap.size ∧ Kp w w0) := ⟨hw0, hwB, hwA, hB, kw⟩
  clear hNX hND hst hw0 hwB hwA hB sA sB kw kAB h1 l1 h2 l2 h3 l3 h4 l4 k1 k2 k3 k4 z2 z4 hX hD hz lX lD g1 g2 g3 g4
  go_enter Tryz.func79, Tryz.ntmps79
  go_upto_region 1 with fail
  rw [← HW.out.2.2.2.1]
  try rw [← HW.out.2.2.1]
  try rw [← HW.out.2.1]
  try rw [← HW.out.1]
  go_region_held3 (fun w' => w'.cell? ⟨B, 0, none⟩ = some (.bool sa) ∧ w'.cell? ⟨B, 1, none⟩ = some (.slice P1 E1 C1) ∧ w'.cell? ⟨B, 2, none⟩ = some (.slice P2 E2 C2) ∧ w'.cell? ⟨B + 1, 0, none⟩ = some (.bool sb) ∧ w'.cell? ⟨B + 1, 1, none⟩ = some (.slice Q1 E3 D1) ∧ w'.cell? ⟨B + 1, 2, none⟩ = some (.slice Q2 E4 D2)) (refine ⟨kkeep (W := wB) ?_ x0, kkeep (W := wB) ?_ x1, kkeep (W := wB) ?_ x2, kkeep (W := wB) ?_ y0, kkeep (W := wB) ?_ y1, kkeep (W := wB) ?_ y2⟩ <;> ((repeat (first | with_reducible exact kC | with_reducible exact kB | with_reducible exact kA | with_reducible exact kS | with_reducible exact kD | with_reducible exact Kp.refl _ | with_reducible refine Kp.drew ?_ | refine Kp.setCell ?_ hge _)); done)) (first | (go_at_call 101; have hh := ar2; refine (HFR.out pp cc pq cq _ ?q1 ?q2 ll1 ?q3 ll2).mono ?_; (case q1 => ((repeat (first | with_reducible exact kk2 | with_reducible exact kk1 | with_reducible exact Kp.refl _ | with_reducible refine Kp.drew ?_)); done)); (case q2 => exact ar1.grown k12); (case q3 => exact ar2); rintro e v3 ⟨vn, vd, a', b', ng, rfl, o1, o2, ff, k23⟩; have kk3 : Kp w0 v3 := Kp.trans ?q4 k23; (case q4 => ((repeat (first | with_reducible exact kk2 | with_reducible exact kk1 | with_reducible exact Kp.refl _ | with_reducible refine Kp.drew ?_)); done)); have kC : Kp wB v3 := kS.trans kk3; obtain ⟨pn, cn, rfl, an, ln⟩ := o1.arr; obtain ⟨pd, cd, rfl, ad, ld⟩ := o2.arr; have R0 := kkeep kk3 r0; have R1 := kkeep kk3 r1; have R2 := kkeep kk3 r2; have F0 := (kfro kk3 hlt).trans f0; have F1 := (kfro kk3 hlt).trans f1; have F2 := (kfro kk3 hlt).trans f2) | (go_at_call 116; have hh := ar1; refine (HP2.out _ ?q5).mono ?_; (case q5 => ((repeat (first | with_reducible exact kk2 | with_reducible exact kk1 | with_reducible exact Kp.refl _ | with_reducible refine Kp.drew ?_)); done)); rintro e v2 ⟨pq, cq, rfl, ar2, ll2, k12⟩; have kk2 : Kp w0 v2 := Kp.trans ?q7 k12; (case q7 => ((repeat (first | with_reducible exact kk2 | with_reducible exact kk1 | with_reducible exact Kp.refl _ | with_reducible refine Kp.drew ?_)); done)); have kB : Kp wB v2 := kS.trans kk2) | (go_at_call 116; refine (HP1.out _ ?q8).mono ?_; (case q8 => ((repeat (first | with_reducible exact kk2 | with_reducible exact kk1 | with_reducible exact Kp.refl _ | with_reducible refine Kp.drew ?_)); done)); rintro e v1 ⟨pp, cc, rfl, ar1, ll1, k01⟩; have kk1 : Kp w0 v1 := Kp.trans ?q10 k01; (case q10 => ((repeat (first | with_reducible exact kk2 | with_reducible exact kk1 | with_reducible exact Kp.refl _ | with_reducible refine Kp.drew ?_)); done)); have kA : Kp wB v1 := kS.trans kk1))
  have hs1 := Below.size kk2
  obtain ⟨wz, hwz⟩ : ∃ wz, wz = ((v3.setCell ⟨B + 2, 0, none⟩ (.bool ng)).setCell ⟨B + 2, 1, none⟩ (.slice pn (dig a').length cn)).setCell ⟨B + 2, 2, none⟩ (.slice pd (dig b').length cd) := ⟨_, rfl⟩
  have kb : Kb (B + 2) v3 wz := by rw [hwz]; exact (((Kb.refl (B + 2) v3).setCell 0 _).setCell 1 _).setCell 2 _
  have O1 := o1.kb kb (fun g hg => by have := o1.lt g hg; omega)
  have O2 := o2.kb kb (fun g hg => by have := o2.lt g hg; omega)
  have hkw : Kp w wz := kb.kp (HW.out.2.2.2.2.trans kk3) (by rw [HW.out.2.2.2.1]; omega)
  have HO : Hid (Own wz w.heap.size (.slice pn (dig a').length cn) (dig a') ∧ Own wz w.heap.size (.slice pd (dig b').length cd) (dig b') ∧ (FracOf X D 0 a' b' ∧ (X ≠ 0 → ng = st)) ∧ Kp w wz ∧ wz = ((v3.setCell ⟨B + 2, 0, none⟩ (.bool ng)).setCell ⟨B + 2, 1, none⟩ (.slice pn (dig a').length cn)).setCell ⟨B + 2, 2, none⟩ (.slice pd (dig b').length cd)) := ⟨O1.mono (by have e9 := HW.out.2.2.2.1; first | omega | exact Nat.le_trans (show w.heap.size ≤ v1.heap.size by omega) (Nat.le_refl _)), O2.mono (by have e9 := HW.out.2.2.2.1; first | omega | exact Nat.le_trans (show w.heap.size ≤ v1.heap.size by omega) (Nat.le_refl _)), ff, hkw, hwz⟩
  clear hs1 hwz kb O1 O2 hkw o1 o2 ff k23 kk3 kC an ln ad ld kk2 k12 kB ar2 ll2 kk1 k01 kA ar1 ll1 HP1 HP2 HFR kS kD hge
  go_wp2
  obtain ⟨q1, q2, q3, q4, q5⟩ := HO.out
  rw [q5] at q1 q2 q4
  exact bodyPost_ret (v := .agg #[.bool ng, .slice pn (dig a').length cn, .slice pd (dig b').length cd]) (by simp [results, Tryz.results79, go_sem, R0, R1, R2]) rfl ⟨_, _, a', b', ng, rfl, q1, q2, q3, q4⟩
set_option maxRecDepth 20000 in
set_option maxHeartbeats 400000 in
theorem raddX_ (sa sb : Bool) (a1 a2 b1 b2 : Nat) (P1 P2 Q1 Q2 : Option Addr) (C1 C2 D1 D2 : Nat) (w : World) (h1 : Arr w P1 (dig a1)) (l1 : (dig a1).length ≤ C1) (h2 : Arr w P2 (dig a2)) (l2 : (dig a2).length ≤ C2) (h3 : Arr w Q1 (dig b1)) (l3 : (dig b1).length ≤ D1) (h4 : Arr w Q2 (dig b2)) (l4 : (dig b2).length ≤ D2) (N1 N2 : Nat) (hN : N1 + N2 ≤ 100000) (ba1 : blen a1 ≤ N1) (ba2 : blen a2 ≤ N1) (bb1 : blen b1 ≤ N2) (bb2 : blen b2 ≤ N2) (za : a2 ≠ 0) (zb : b2 ≠ 0) : Calls Tryz.prog 78 #[.agg #[.bool sa, .slice P1 (dig a1).length C1, .slice P2 (dig a2).length C2], .agg #[.bool sb, .slice Q1 (dig b1).length D1, .slice Q2 (dig b2).length D2]] w fun e w' => ∃ (vn vd : Value) (a' b' : Nat) (ng : Bool), e = .returned (.agg #[.bool ng, vn, vd]) ∧ Own w' w.heap.size vn (dig a') ∧ Own w' w.heap.size vd (dig b') ∧ (rvI ng a' * ((a2 : Int) * (b2 : Int)) = (rvI sa a1 * (b2 : Int) + rvI sb b1 * (a2 : Int)) * (b' : Int) ∧ b' ≠ 0 ∧ blen a' ≤ 2 * (N1 + N2) + 3 ∧ blen b' ≤ 2 * (N1 + N2) + 3) ∧ Kp w w' := by
  obtain ⟨X, hX⟩ : ∃ X, X = a1 * b2 := ⟨_, rfl⟩
  obtain ⟨Y, hY⟩ : ∃ Y, Y = b1 * a2 := ⟨_, rfl⟩
  obtain ⟨D, hD⟩ : ∃ D, D = a2 * b2 := ⟨_, rfl⟩
  have hzD : D ≠ 0 := by rw [hD]; exact Nat.mul_ne_zero za zb
  have bX : blen X ≤ N1 + N2 := by rw [hX]; exact blen_mulX _ _ _ _ ba1 bb2
  have bY : blen Y ≤ N1 + N2 := by rw [hY, Nat.add_comm]; exact blen_mulX _ _ _ _ bb1 ba2
  have bD : blen D ≤ N1 + N2 := by rw [hD]; exact blen_mulX _ _ _ _ ba2 bb2
  obtain ⟨T9, hT9⟩ : ∃ T9 : Nat, T9 = N1 + N2 := ⟨_, rfl⟩
  have bS : ∀ c, c ≤ X + Y → blen c ≤ T9 + 1 := fun c hc => by
    have g1 := (blen_le_iff X T9).1 (by omega)
    have g2 := (blen_le_iff Y T9).1 (by omega)
    rw [blen_le_iff, Nat.pow_succ]; omega
  have lX : len32 X ≤ 16000 := dlen X 16000 (by omega)
  have lY : len32 Y ≤ 16000 := dlen Y 16000 (by omega)
  have lD : len32 D ≤ 16000 := dlen D 16000 (by omega)
  have lS : len32 (X + Y) ≤ 16000 := dlen (X + Y) 16000 (by have := bS (X + Y) (Nat.le_refl _); omega)
  have k1 : len32 a1 ≤ 4000 := dlen a1 4000 (by omega)
  have k2 : len32 a2 ≤ 4000 := dlen a2 4000 (by omega)
  have k3 : len32 b1 ≤ 4000 := dlen b1 4000 (by omega)
  have k4 : len32 b2 ≤ 4000 := dlen b2 4000 (by omega)
  have eX : rvI sa a1 * (b2 : Int) = rvI sa X := by rw [hX, rvI_mul]
  have eY : rvI sb b1 * (a2 : Int) = rvI sb Y := by rw [hY, rvI_mul]
  have eD : (a2 : Int) * (b2 : Int) = (D : Int) := by rw [hD, Int.natCast_mul]
  rw [eX, eY, eD]
  have fin : ∀ (x : Nat) (neg : Bool) (a' b' : Nat) (ng : Bool), x ≤ X + Y → rvI neg x = rvI sa X + rvI sb Y → (FracOf x D 0 a' b' ∧ (x ≠ 0 → ng = neg)) → (rvI ng a' * (D : Int) = (rvI sa X + rvI sb Y) * (b' : Int) ∧ b' ≠ 0 ∧ blen a' ≤ 2 * (N1 + N2) + 3 ∧ blen b' ≤ 2 * (N1 + N2) + 3) := fun x neg a' b' ng hx hv hF => by
    refine ⟨by rw [← hv]; exact frac_x x D a' b' ng neg hzD hF.1 hF.2, hF.1.1, ?_, ?_⟩
    · have g1 := hF.1.2.2.2.1; have g2 := bS x hx; simp at g1; omega
    · have g1 := hF.1.2.2.2.2; simp at g1; omega
  by_cases c1 : sa = sb
  · refine (raddEqO_ sa sb a1 a2 b1 b2 P1 P2 Q1 Q2 C1 C2 D1 D2 w h1 l1 h2 l2 h3 l3 h4 l4 k1 k2 k3 k4 za zb X Y D hX hY hD lX lY lD lS c1).mono ?_
    rintro e w' ⟨vn, vd, a', b', ng, he, q1, q2, q3, q4⟩
    refine ⟨vn, vd, a', b', ng, he, q1, q2, fin (X + Y) sa a' b' ng (Nat.le_refl _) ?_ q3, q4⟩
    rw [← c1]; unfold rvI; cases sa <;> simp <;> omega
  · by_cases c2 : Y ≤ X
    · refine (raddGeO_ sa sb a1 a2 b1 b2 P1 P2 Q1 Q2 C1 C2 D1 D2 w h1 l1 h2 l2 h3 l3 h4 l4 k1 k2 k3 k4 za zb X Y D hX hY hD lX lY lD lS c1 c2).mono ?_
      rintro e w' ⟨vn, vd, a', b', ng, he, q1, q2, q3, q4⟩
      refine ⟨vn, vd, a', b', ng, he, q1, q2, fin (X - Y) sa a' b' ng (by omega) ?_ q3, q4⟩
      unfold rvI; cases sa <;> cases sb <;> simp at c1 ⊢ <;> omega
    · refine (raddLtO_ sa sb a1 a2 b1 b2 P1 P2 Q1 Q2 C1 C2 D1 D2 w h1 l1 h2 l2 h3 l3 h4 l4 k1 k2 k3 k4 za zb X Y D hX hY hD lX lY lD lS c1 (by omega)).mono ?_
      rintro e w' ⟨vn, vd, a', b', ng, he, q1, q2, q3, q4⟩
      refine ⟨vn, vd, a', b', ng, he, q1, q2, fin (Y - X) sb a' b' ng (by omega) ?_ q3, q4⟩
      unfold rvI; cases sa <;> cases sb <;> simp at c1 ⊢ <;> omega
theorem xadd_ (V : Int) (V' : Int) (C C' N N' : Nat) (hN : N + N' ≤ 100000) (s : Bool) (p : Option Addr) (l c : Nat) (q : Option Addr) (k d : Nat) (s2 : Bool) (p2 : Option Addr) (l2 c2 : Nat) (q2 : Option Addr) (k2 d2 : Nat) (B1 B2 : Nat) (w : World) (h1 : XP B1 w s p l c q k d V C N) (h2 : XP B2 w s2 p2 l2 c2 q2 k2 d2 (V') C' N') : Calls Tryz.prog 78 #[.agg #[.bool s, .slice p l c, .slice q k d], .agg #[.bool s2, .slice p2 l2 c2, .slice q2 k2 d2]] w fun e w' => ∃ (s3 : Bool) (p3 : Option Addr) (l3 c3 : Nat) (q3 : Option Addr) (k3 d3 : Nat), e = .returned (.agg #[.bool s3, .slice p3 l3 c3, .slice q3 k3 d3]) ∧ XP w.heap.size w' s3 p3 l3 c3 q3 k3 d3 (V * (C' : Int) + V' * (C : Int)) (C * C') (2 * (N + N') + 3) ∧ Kp w w' := by
  obtain ⟨a1, a2, u1, u2, u3⟩ := h1
  obtain ⟨b1, b2, v1, v2, v3⟩ := h2
  obtain ⟨P1, C1, e1, x1, y1⟩ := u1.arr
  obtain ⟨P2, C2, e2, x2, y2⟩ := u2.arr
  obtain ⟨Q1, D1, e3, x3, y3⟩ := v1.arr
  obtain ⟨Q2, D2, e4, x4, y4⟩ := v2.arr
  rw [e1, e2, e3, e4]
  refine (raddX_ s s2 a1 a2 b1 b2 P1 P2 Q1 Q2 C1 C2 D1 D2 w x1 y1 x2 y2 x3 y3 x4 y4 N N' hN u3.2.2.2.1 u3.2.2.2.2 v3.2.2.2.1 v3.2.2.2.2 u3.1 v3.1).mono ?_
  rintro e w' ⟨vn, vd, a', b', ng, rfl, o1, o2, ⟨f1, f2, f3, f4⟩, g⟩
  obtain ⟨p3, c3, rfl, -, -⟩ := o1.arr
  obtain ⟨q3, d3, rfl, -, -⟩ := o2.arr
  exact ⟨ng, p3, _, c3, q3, _, d3, rfl, ⟨a', b', o1, o2, XF.add s s2 ng a1 a2 b1 b2 a' b' V V' C C' N N' _ u3 v3 f2 f1 f3 f4⟩, g⟩
theorem xmul_ (V : Int) (V' : Int) (C C' N N' : Nat) (hN : N + N' ≤ 100000) (s : Bool) (p : Option Addr) (l c : Nat) (q : Option Addr) (k d : Nat) (s2 : Bool) (p2 : Option Addr) (l2 c2 : Nat) (q2 : Option Addr) (k2 d2 : Nat) (B1 B2 : Nat) (w : World) (h1 : XP B1 w s p l c q k d V C N) (h2 : XP B2 w s2 p2 l2 c2 q2 k2 d2 (V') C' N') : Calls Tryz.prog 79 #[.agg #[.bool s, .slice p l c, .slice q k d], .agg #[.bool s2, .slice p2 l2 c2, .slice q2 k2 d2]] w fun e w' => ∃ (s3 : Bool) (p3 : Option Addr) (l3 c3 : Nat) (q3 : Option Addr) (k3 d3 : Nat), e = .returned (.agg #[.bool s3, .slice p3 l3 c3, .slice q3 k3 d3]) ∧ XP w.heap.size w' s3 p3 l3 c3 q3 k3 d3 (V * V') (C * C') (2 * (N + N') + 3) ∧ Kp w w' := by
  obtain ⟨a1, a2, u1, u2, u3⟩ := h1
  obtain ⟨b1, b2, v1, v2, v3⟩ := h2
  obtain ⟨P1, C1, e1, x1, y1⟩ := u1.arr
  obtain ⟨P2, C2, e2, x2, y2⟩ := u2.arr
  obtain ⟨Q1, D1, e3, x3, y3⟩ := v1.arr
  obtain ⟨Q2, D2, e4, x4, y4⟩ := v2.arr
  rw [e1, e2, e3, e4]
  obtain ⟨X, hX⟩ : ∃ X, X = a1 * b1 := ⟨_, rfl⟩
  obtain ⟨D, hD⟩ : ∃ D, D = a2 * b2 := ⟨_, rfl⟩
  have ba1 := u3.2.2.2.1
  have ba2 := u3.2.2.2.2
  have bb1 := v3.2.2.2.1
  have bb2 := v3.2.2.2.2
  have bX : blen X ≤ N + N' := by rw [hX]; exact blen_mulX _ _ _ _ ba1 bb1
  have bD : blen D ≤ N + N' := by rw [hD]; exact blen_mulX _ _ _ _ ba2 bb2
  have zb := v3.1
  have hzD : D ≠ 0 := by rw [hD]; exact Nat.mul_ne_zero u3.1 zb
  refine (rmulO_ s s2 a1 a2 b1 b2 P1 P2 Q1 Q2 C1 C2 D1 D2 w x1 y1 x2 y2 x3 y3 x4 y4 (dlen a1 4000 (by omega)) (dlen a2 4000 (by omega)) (dlen b1 4000 (by omega)) (dlen b2 4000 (by omega)) u3.1 zb X D hX hD (dlen X 16000 (by omega)) (dlen D 16000 (by omega))).mono ?_
  rintro e w' ⟨vn, vd, a', b', ng, rfl, o1, o2, ⟨hF, hn⟩, g⟩
  obtain ⟨p3, c3, rfl, -, -⟩ := o1.arr
  obtain ⟨q3, d3, rfl, -, -⟩ := o2.arr
  exact ⟨ng, p3, _, c3, q3, _, d3, rfl, ⟨a', b', o1, o2, XF.mul s s2 ng a1 a2 b1 b2 a' b' V V' C C' N N' _ u3 v3 hF.1 (by have h := frac_x X D a' b' ng _ hzD hF hn; rw [hD, hX, Int.natCast_mul, rvI_mul2] at h; exact h) (by have g1 := hF.2.2.2.1; simp at g1; omega) (by have g1 := hF.2.2.2.2; simp at g1; omega)⟩, g⟩
theorem iv_lt8 (n n' : Bool) (m m' : Nat) : Iv n m < Iv n' m' ↔ Fq.plz n m < Fq.plz n' m' := by
  have h1 := Fq.vV_lt_iff Ieee.double m m'
  have h2 := Fq.vV_lt_iff Ieee.double m' m
  have h3 := vV_zero_iff m
  have h4 := vV_zero_iff m'
  unfold Iv Fq.plz
  cases n <;> cases n' <;> simp <;> omega
open Ieee in
theorem cmI_iv (n n' : Bool) (m m' : Nat) : cmI (Iv n m) (Iv n' m') = cmI (Fq.plz n m) (Fq.plz n' m') := by
  unfold cmI
  simp only [iv_lt8]
theorem cmI_lt (x y : Int) (h : x < y) : cmI x y = -1 := by unfold cmI; rw [if_pos h]
theorem cmI_gt (x y : Int) (h : y < x) : cmI x y = 1 := by unfold cmI; rw [if_neg (by omega), if_pos h]
theorem rsignP_ (n : Bool) (m : Nat) (s : Bool) (p : Option Addr) (l c : Nat) (q : Option Addr) (k d : Nat) (B1 : Nat) (w : World) (h : RP B1 w s p l c q k d n m) : Calls Tryz.prog 92 #[.agg #[.bool s, .slice p l c, .slice q k d]] w fun e w' => e = .returned (.int .i64 (cmI (Iv n m) 0)) ∧ Kp w w' := by
  obtain ⟨a, b, u1, u2, u3⟩ := h
  obtain ⟨K, hK⟩ : ∃ K : Nat, K = 1074 := ⟨_, rfl⟩
  obtain ⟨f1, f2, f3, f4, f5⟩ := u3 K hK
  have h := rsign_ s (.slice p l c) (.slice q k d) a w u1.ls (by omega)
  have hz : a = 0 ↔ Fq.vV Ieee.double m = 0 := by
    have hp := Nat.two_pow_pos K
    constructor
    · intro h0; rw [h0, Nat.zero_mul] at f2
      rcases Nat.mul_eq_zero.1 f2.symm with h1 | h1 <;> omega
    · intro h0; rw [h0, Nat.zero_mul] at f2
      rcases Nat.mul_eq_zero.1 f2 with h1 | h1
      · exact h1
      · omega
  have e : (if a = 0 then 0 else if s then (-1 : Int) else 1) = cmI (Iv n m) 0 := by
    rw [f3]
    by_cases z : a = 0
    · rw [if_pos z, hz.1 z]; cases s <;> rfl
    · have zp : 0 < Fq.vV Ieee.double m := by rcases Nat.eq_zero_or_pos (Fq.vV Ieee.double m) with h | h; exact absurd (hz.2 h) z; exact h
      rw [if_neg z]
      cases s
      · rw [if_neg (by decide), if_neg (by decide), cmI_gt _ _ (by omega)]
      · rw [if_pos rfl, if_pos rfl, cmI_lt _ _ (by omega)]
  rw [e] at h
  exact h
theorem signE_ (n : Bool) (m : Nat) (s : Bool) (p : Option Addr) (l c : Nat) (q : Option Addr) (k d : Nat) (B1 : Nat) (w : World) (h : RP B1 w s p l c q k d (fN n m) (fM m)) : Calls Tryz.prog 66 #[.agg #[.int .i64 (infS n m), .bool s, .slice p l c, .slice q k d]] w fun e w' => e = .returned (.int .i64 (cmI (Fq.plz n m) 0)) ∧ Kp w w' := by
  have z0 : cmI (Fq.plz n m) 0 = cmI (Fq.plz n m) (Fq.plz false 0) := rfl
  by_cases c1 : m = 9218868437227405312
  · have e1 : infS n m = if n then -1 else 1 := by unfold infS; rw [if_pos c1]
    rw [e1]
    have P1 : Fq.plz n m = if n then -(m : Int) else m := by unfold Fq.plz; cases n <;> rfl
    cases n
    · rw [cmI_gt _ _ (by rw [P1]; simp; omega)]; exact signI_ 1 s p l c q k d (by decide) w
    · rw [cmI_lt _ _ (by rw [P1]; simp; omega)]; exact signI_ (-1) s p l c q k d (by decide) w
  · have e1 : infS n m = 0 := by unfold infS; rw [if_neg c1]
    have f1 : fN n m = n ∧ fM m = m := by unfold fN fM; rw [if_neg c1, if_neg c1]; exact ⟨rfl, rfl⟩
    rw [f1.1, f1.2] at h
    have iz : Iv false 0 = 0 := by unfold Iv; rw [if_neg (by decide), Fq.vV_zero]; rfl
    rw [e1, z0, ← cmI_iv, iz]
    exact signZ_ _ s p l c q k d w (fun W g => rsignP_ n m s p l c q k d B1 W (h.kp g))
set_option linter.unusedVariables false

theorem vZ_plz (n : Bool) (m : Nat) : vZ (Fq.plz n m) = Iv n m := by
  cases n
  · have e : Fq.plz false m = (m : Int) := by simp [Fq.plz]
    rw [e, vZ_pos _ (by omega)]
    unfold Iv; simp
  · have e : Fq.plz true m = -(m : Int) := by simp [Fq.plz]
    rw [e, vZ_neg, vZ_pos _ (by omega)]
    unfold Iv; simp
theorem cmI_ne (x : Int) (h : x ≠ 0) : (cmI x 0 == 0) = false := by
  unfold cmI
  rcases Int.lt_trichotomy x 0 with c | c | c
  · rw [if_pos c]; rfl
  · exact absurd c h
  · rw [if_neg (by omega), if_pos c]; rfl
theorem cmI_mul (x y : Int) (hx : x ≠ 0) (hy : y ≠ 0) : IntKind.i64.wrap (cmI x 0 * cmI y 0) = if (x < 0 ↔ y < 0) then 1 else -1 := by
  unfold cmI
  rcases Int.lt_trichotomy x 0 with c | c | c
  · rcases Int.lt_trichotomy y 0 with e | e | e
    · rw [if_pos c, if_pos e, if_pos (show (x < 0 ↔ y < 0) by omega)]; decide
    · exact absurd e hy
    · rw [if_pos c, if_neg (show ¬ y < 0 by omega), if_pos e, if_neg (show ¬ (x < 0 ↔ y < 0) by omega)]; decide
  · exact absurd c hx
  · rcases Int.lt_trichotomy y 0 with e | e | e
    · rw [if_neg (show ¬ x < 0 by omega), if_pos c, if_pos e, if_neg (show ¬ (x < 0 ↔ y < 0) by omega)]; decide
    · exact absurd e hy
    · rw [if_neg (show ¬ x < 0 by omega), if_pos c, if_neg (show ¬ y < 0 by omega), if_pos e, if_pos (show (x < 0 ↔ y < 0) by omega)]; decide
theorem prodE_ (K : Nat) (hK : K = 1074) (n n' : Bool) (m m' : Nat) (hm : m ≤ 9218868437227405312) (hm' : m' ≤ 9218868437227405312) (s : Bool) (p : Option Addr) (l c : Nat) (q : Option Addr) (k d : Nat) (s2 : Bool) (p2 : Option Addr) (l2 c2 : Nat) (q2 : Option Addr) (k2 d2 : Nat) (B1 B2 : Nat) (w : World) (h1 : RP B1 w s p l c q k d (fN n m) (fM m)) (h2 : RP B2 w s2 p2 l2 c2 q2 k2 d2 (fN n' m') (fM m')) : Calls Tryz.prog 53 #[.agg #[.int .i64 (infS n m), .bool s, .slice p l c, .slice q k d], .agg #[.int .i64 (infS n' m'), .bool s2, .slice p2 l2 c2, .slice q2 k2 d2]] w fun e w' => ∃ (s3 : Bool) (p3 : Option Addr) (l3 c3 : Nat) (q3 : Option Addr) (k3 d3 : Nat), e = .returned (.agg #[.int .i64 (pi9 (Fq.plz n m) (Fq.plz n' m')), .bool s3, .slice p3 l3 c3, .slice q3 k3 d3]) ∧ (pi9 (Fq.plz n m) (Fq.plz n' m') = 0 → XP w.heap.size w' s3 p3 l3 c3 q3 k3 d3 (pV9 (Fq.plz n m) (Fq.plz n' m')) (2 ^ K * 2 ^ K) 7000) ∧ Kp w w' := by
  have hs1 := fun (W : World) (g : Kp w W) => signE_ n m s p l c q k d B1 W (h1.kp g)
  have hs2 := fun (W : World) (g : Kp w W) => signE_ n' m' s2 p2 l2 c2 q2 k2 d2 B2 W (h2.kp g)
  have z0 : ∀ (W : World) (s3 : Bool) (p3 : Option Addr) (l3 c3 : Nat) (q3 : Option Addr) (k3 d3 : Nat), RP w.heap.size W s3 p3 l3 c3 q3 k3 d3 false 0 → XP w.heap.size W s3 p3 l3 c3 q3 k3 d3 0 (2 ^ K * 2 ^ K) 7000 := fun W s3 p3 l3 c3 q3 k3 d3 h => by
    have g := RP.xp h K hK
    have iz : Iv false 0 = 0 := by unfold Iv; rw [if_neg (by decide), Fq.vV_zero]; rfl
    rw [iz] at g
    exact g.as 0 _ _ (Nat.mul_ne_zero (by have := Nat.two_pow_pos K; omega) (by have := Nat.two_pow_pos K; omega)) (by simp) (by omega)
  have PX : Fq.plz n m = if n then -(m : Int) else m := by unfold Fq.plz; cases n <;> rfl
  have PY : Fq.plz n' m' = if n' then -(m' : Int) else m' := by unfold Fq.plz; cases n' <;> rfl
  by_cases zx : (Fq.plz n m) = 0
  · have c9 : ¬ pII (Fq.plz n m) (Fq.plz n' m') := fun h => h.1.1 zx
    have e1 : pi9 (Fq.plz n m) (Fq.plz n' m') = 0 := by unfold pi9; rw [if_neg c9]
    have e2 : pV9 (Fq.plz n m) (Fq.plz n' m') = 0 := by unfold pV9; rw [if_neg c9, zx, vZ_zero, Int.zero_mul]
    rw [e1, e2]
    refine (prZ1_ _ _ _ s p l c q k d s2 p2 l2 c2 q2 k2 d2 (by rw [zx]; decide) w hs1).mono ?_
    rintro e w' ⟨s3, p3, l3, c3, q3, k3, d3, rfl, q, g⟩
    exact ⟨s3, p3, l3, c3, q3, k3, d3, rfl, fun _ => z0 _ _ _ _ _ _ _ _ q, g⟩
  by_cases zy : (Fq.plz n' m') = 0
  · have c9 : ¬ pII (Fq.plz n m) (Fq.plz n' m') := fun h => h.1.2 zy
    have e1 : pi9 (Fq.plz n m) (Fq.plz n' m') = 0 := by unfold pi9; rw [if_neg c9]
    have e2 : pV9 (Fq.plz n m) (Fq.plz n' m') = 0 := by unfold pV9; rw [if_neg c9, zy, vZ_zero, Int.mul_zero]
    rw [e1, e2]
    refine (prZ2_ _ _ _ _ s p l c q k d s2 p2 l2 c2 q2 k2 d2 (cmI_ne _ zx) (by rw [zy]; decide) w hs1 hs2).mono ?_
    rintro e w' ⟨s3, p3, l3, c3, q3, k3, d3, rfl, q, g⟩
    exact ⟨s3, p3, l3, c3, q3, k3, d3, rfl, fun _ => z0 _ _ _ _ _ _ _ _ q, g⟩
  by_cases ci : m = 9218868437227405312 ∨ m' = 9218868437227405312
  · have c9 : pII (Fq.plz n m) (Fq.plz n' m') := by
      unfold pII
      refine ⟨⟨zx, zy⟩, ?_⟩
      rw [PX, PY]
      cases n <;> cases n' <;> simp <;> omega
    have e1 : pi9 (Fq.plz n m) (Fq.plz n' m') = if ((Fq.plz n m) < 0 ↔ (Fq.plz n' m') < 0) then 1 else -1 := by unfold pi9; rw [if_pos c9]
    have ti : ((infS n m) != 0) = true ∨ (((infS n m) != 0) = false ∧ ((infS n' m') != 0) = true) := by
      unfold infS
      by_cases c1 : m = 9218868437227405312
      · left; rw [if_pos c1]; cases n <;> rfl
      · right; rw [if_neg c1, if_pos (by omega)]; cases n' <;> exact ⟨rfl, rfl⟩
    rw [e1]
    refine (prI_ _ _ _ _ _ s p l c q k d s2 p2 l2 c2 q2 k2 d2 (cmI_ne _ zx) (cmI_ne _ zy) ti (cmI_mul _ _ zx zy) w hs1 hs2).mono ?_
    rintro e w' ⟨s3, p3, l3, c3, q3, k3, d3, rfl, q, g⟩
    refine ⟨s3, p3, l3, c3, q3, k3, d3, rfl, fun h => ?_, g⟩
    split at h <;> omega
  · have c9 : ¬ pII (Fq.plz n m) (Fq.plz n' m') := by
      unfold pII
      rw [PX, PY]
      cases n <;> cases n' <;> simp <;> omega
    have e1 : pi9 (Fq.plz n m) (Fq.plz n' m') = 0 := by unfold pi9; rw [if_neg c9]
    have e2 : pV9 (Fq.plz n m) (Fq.plz n' m') = Iv n m * Iv n' m' := by unfold pV9; rw [if_neg c9, vZ_plz, vZ_plz]
    have i1 : infS n m = 0 := by unfold infS; rw [if_neg (by omega)]
    have i2 : infS n' m' = 0 := by unfold infS; rw [if_neg (by omega)]
    rw [show fN n m = n from by unfold fN; rw [if_neg (by omega)], show fM m = m from by unfold fM; rw [if_neg (by omega)]] at h1
    rw [show fN n' m' = n' from by unfold fN; rw [if_neg (by omega)], show fM m' = m' from by unfold fM; rw [if_neg (by omega)]] at h2
    rw [i1] at hs1
    rw [i2] at hs2
    rw [e1, e2, i1, i2]
    refine (prF_ _ _ _ _ _ s p l c q k d s2 p2 l2 c2 q2 k2 d2 (cmI_ne _ zx) (cmI_ne _ zy) w hs1 hs2 (fun W g => xmul_ (Iv n m) (Iv n' m') (2 ^ K) (2 ^ K) 1500 1500 (by omega) s p l c q k d s2 p2 l2 c2 q2 k2 d2 B1 B2 W ((h1.kp g).xp K hK) ((h2.kp g).xp K hK))).mono ?_
    rintro e w' ⟨s3, p3, l3, c3, q3, k3, d3, rfl, q, g⟩
    exact ⟨s3, p3, l3, c3, q3, k3, d3, rfl, fun _ => q.as _ _ _ (Nat.mul_ne_zero (by have := Nat.two_pow_pos K; omega) (by have := Nat.two_pow_pos K; omega)) rfl (by omega), g⟩
end Go.Proofs.YtinohggonicjhaaGreatDoor
