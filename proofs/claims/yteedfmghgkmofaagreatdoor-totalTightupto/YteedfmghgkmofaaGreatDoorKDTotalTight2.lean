import Derived.Test.YteedfmghgkmofaaGreatDoorKDTotalTight1
import Derived.WalkKit
import Derived.ProofKit
import Derived.RowKit3
import Derived.WalkSpells
import Derived.StillTactics
import Derived.Deep.QuietTactic
import Derived.BigQuiet
import Derived.Below
import Derived.Deep.OwnRows
import Derived.OwnWalk
import Derived.Laws.BitsAllLaws
import Derived.Laws.Slices
import Derived.Laws.Bits64b
import Derived.Deep.RegionHeld3
import Derived.Deep.WholeRow
import Derived.Deep.MidRow
import Derived.Laws.Externs
import Derived.Deep.Cut
import Derived.Deep.RegionWith
import Derived.Laws.Bits64
import Derived.Lib.Zigzag
import Derived.RowKit
namespace Go.Proofs.YteedfmghgkmofaaGreatDoor
open Go.RowKit
set_option maxRecDepth 20000 in
set_option maxHeartbeats 1000000 in
theorem raddEqX_ (sa sb : Bool) (a1 a2 b1 b2 : Nat) (P1 P2 Q1 Q2 : Option Addr) (C1 C2 D1 D2 : Nat) (w : World) (h1 : Arr w P1 (dig a1)) (l1 : (dig a1).length ≤ C1) (h2 : Arr w P2 (dig a2)) (l2 : (dig a2).length ≤ C2) (h3 : Arr w Q1 (dig b1)) (l3 : (dig b1).length ≤ D1) (h4 : Arr w Q2 (dig b2)) (l4 : (dig b2).length ≤ D2) (k1 : len32 a1 ≤ 4000) (k2 : len32 a2 ≤ 4000) (k3 : len32 b1 ≤ 4000) (k4 : len32 b2 ≤ 4000) (z2 : a2 ≠ 0) (z4 : b2 ≠ 0) (X Y D : Nat) (hX : X = a1 * b2) (hY : Y = b1 * a2) (hD : D = a2 * b2) (lX : len32 X ≤ 16000) (lY : len32 Y ≤ 16000) (lD : len32 D ≤ 16000) (lS : len32 (X + Y) ≤ 16000) (hst : sa = sb) :
    Calls Tryz.prog 40 #[.agg #[.bool sa, .slice P1 (dig a1).length C1, .slice P2 (dig a2).length C2], .agg #[.bool sb, .slice Q1 (dig b1).length D1, .slice Q2 (dig b2).length D2]] w fun e w' => ∃ (vn vd : Value) (a' b' : Nat) (ng : Bool), e = .returned (.agg #[.bool ng, vn, vd]) ∧ Own w' w.heap.size vn (dig a') ∧ Own w' w.heap.size vd (dig b') ∧ (FracX (X + Y) D 0 a' b' ∧ (X + Y ≠ 0 → ng = sa)) ∧ Kp w w' := by
  have hz : D ≠ 0 := by rw [hD]; exact Nat.mul_ne_zero z2 z4
  obtain ⟨E1, g1⟩ : ∃ E, E = (dig a1).length := ⟨_, rfl⟩
  obtain ⟨E2, g2⟩ : ∃ E, E = (dig a2).length := ⟨_, rfl⟩
  obtain ⟨E3, g3⟩ : ∃ E, E = (dig b1).length := ⟨_, rfl⟩
  obtain ⟨E4, g4⟩ : ∃ E, E = (dig b2).length := ⟨_, rfl⟩
  rw [← g1, ← g2, ← g3, ← g4]
  obtain ⟨B, hB⟩ : ∃ B, B = w.heap.size := ⟨_, rfl⟩
  obtain ⟨wA, hwA⟩ : ∃ wA, wA = w.alloc (.cells #[.bool sa, .slice P1 E1 C1, .slice P2 E2 C2] 43) := ⟨_, rfl⟩
  obtain ⟨wB, hwB⟩ : ∃ wB, wB = wA.alloc (.cells #[.bool sb, .slice Q1 E3 D1, .slice Q2 E4 D2] 43) := ⟨_, rfl⟩
  obtain ⟨w0, hw0⟩ : ∃ w0, w0 = wB.alloc (.cells #[.bool false, .slice none 0 0, .slice none 0 0] 43) := ⟨_, rfl⟩
  have sA : wA.heap.size = B + 1 := by rw [hwA, hB]; simp
  have sB : wB.heap.size = B + 2 := by rw [hwB]; simp [sA]
  have x0 : wA.cell? ⟨B, 0, none⟩ = some (.bool sa) := by rw [hwA, hB]; simp [go_sem]
  have x1 : wA.cell? ⟨B, 1, none⟩ = some (.slice P1 E1 C1) := by rw [hwA, hB]; simp [go_sem]
  have x2 : wA.cell? ⟨B, 2, none⟩ = some (.slice P2 E2 C2) := by rw [hwA, hB]; simp [go_sem]
  have y0 : wB.cell? ⟨B + 1, 0, none⟩ = some (.bool sb) := by rw [hwB, ← sA]; simp [go_sem]
  have y1 : wB.cell? ⟨B + 1, 1, none⟩ = some (.slice Q1 E3 D1) := by rw [hwB, ← sA]; simp [go_sem]
  have y2 : wB.cell? ⟨B + 1, 2, none⟩ = some (.slice Q2 E4 D2) := by rw [hwB, ← sA]; simp [go_sem]
  have r0 : w0.cell? ⟨B + 2, 0, none⟩ = some (.bool false) := by rw [hw0, ← sB]; simp [go_sem]
  have r1 : w0.cell? ⟨B + 2, 1, none⟩ = some (.slice none 0 0) := by rw [hw0, ← sB]; simp [go_sem]
  have r2 : w0.cell? ⟨B + 2, 2, none⟩ = some (.slice none 0 0) := by rw [hw0, ← sB]; simp [go_sem]
  have f0 : w0.frozen? ⟨B + 2, 0, none⟩ = false := by rw [hw0, ← sB]; simp [go_sem]
  have f1 : w0.frozen? ⟨B + 2, 1, none⟩ = false := by rw [hw0, ← sB]; simp [go_sem]
  have f2 : w0.frozen? ⟨B + 2, 2, none⟩ = false := by rw [hw0, ← sB]; simp [go_sem]
  have kw : Kp w w0 := by rw [hw0, hwB, hwA]; exact (((Kp.refl w).alloc _).alloc _).alloc _
  have kAB : Kp wA wB := by rw [hwB]; exact (Kp.refl wA).alloc _
  have kB0 : Kp wB w0 := by rw [hw0]; exact (Kp.refl wB).alloc _
  have kA0 : Kp wA w0 := kAB.trans kB0
  have hlt := cell_lt r0
  -- the products
  have t1 := timesR (.slice P1 E1 C1) (.slice Q2 E4 D2) a1 b2 w0 ⟨P1, C1, by rw [g1], h1.grown kw, l1⟩ ⟨Q2, D2, by rw [g4], h4.grown kw, l4⟩ (by omega) (by omega)
  have t2 := fun w9 (k : Kp w0 w9) => timesR (.slice Q1 E3 D1) (.slice P2 E2 C2) b1 a2 w9 ⟨Q1, D1, by rw [g3], h3.grown (kw.trans k), l3⟩ ⟨P2, C2, by rw [g2], h2.grown (kw.trans k), l2⟩ (by omega) (by omega)
  have t3 := fun w9 (k : Kp w0 w9) => timesR (.slice P2 E2 C2) (.slice Q2 E4 D2) a2 b2 w9 ⟨P2, C2, by rw [g2], h2.grown (kw.trans k), l2⟩ ⟨Q2, D2, by rw [g4], h4.grown (kw.trans k), l4⟩ (by omega) (by omega)
  rw [← hX] at t1
  rw [← hY] at t2
  rw [← hD] at t3
  have HW : Hid (w0 = wB.alloc (.cells #[.bool false, .slice none 0 0, .slice none 0 0] 43) ∧ wB = wA.alloc (.cells #[.bool sb, .slice Q1 E3 D1, .slice Q2 E4 D2] 43) ∧ wA = w.alloc (.cells #[.bool sa, .slice P1 E1 C1, .slice P2 E2 C2] 43) ∧ B = w.heap.size ∧ wA.heap.size = B + 1 ∧ wB.heap.size = B + 2 ∧ Kp w w0 ∧ Kp wA w0 ∧ Kp wB w0) := ⟨hw0, hwB, hwA, hB, sA, sB, kw, kA0, kB0⟩
  have X0 := kkeep kA0 x0
  have X1 := kkeep kA0 x1
  have X2 := kkeep kA0 x2
  have Y0 := kkeep kB0 y0
  have Y1 := kkeep kB0 y1
  have Y2 := kkeep kB0 y2
  have HL : Hid (D ≠ 0 ∧ len32 X ≤ 16000 ∧ len32 Y ≤ 16000 ∧ len32 D ≤ 16000 ∧ len32 (X + Y) ≤ 16000) := ⟨hz, lX, lY, lD, lS⟩
  clear hw0 hwB hwA hB sA sB kw kAB kB0 kA0 h1 l1 h2 l2 h3 l3 h4 l4 k1 k2 k3 k4 z2 z4 hX hY hD hz lX lY lD lS g1 g2 g3 g4 x1 x2 y1 y2
  subst hst
  go_enter Tryz.func40, Tryz.ntmps40
  go_wp2_with fail
  rw [← HW.out.2.2.2.1]
  try rw [← HW.out.2.2.1]
  try rw [← HW.out.2.1]
  try rw [← HW.out.1]
  refine t1.mono ?_; rintro e w1 ⟨p1, c1, rfl, s1, m1, k1⟩
  obtain ⟨N1, hN1⟩ : ∃ N, N = (dig X).length := ⟨_, rfl⟩
  rw [← hN1]
  have H1 : Hid (N1 = (dig X).length) := hN1
  clear hN1
  replace X0 := kkeep k1 X0
  replace X2 := kkeep k1 X2
  replace Y0 := kkeep k1 Y0
  replace Y1 := kkeep k1 Y1
  replace Y2 := kkeep k1 Y2
  have t2' := t2 w1 k1
  clear t1 t2
  go_wp2_with fail
  refine t2'.mono ?_; rintro e w2 ⟨p2, c2, rfl, s2, m2, k2⟩
  obtain ⟨N2, hN2⟩ : ∃ N, N = (dig Y).length := ⟨_, rfl⟩
  rw [← hN2]
  have H2 : Hid (N2 = (dig Y).length) := hN2
  clear hN2
  replace X0 := kkeep k2 X0
  replace X2 := kkeep k2 X2
  replace Y0 := kkeep k2 Y0
  replace Y2 := kkeep k2 Y2
  have t3' := t3 w2 (k1.trans k2)
  clear t2' t3
  go_wp2_with fail
  refine t3'.mono ?_; rintro e w3 ⟨p3, c3, rfl, s3, m3, k3⟩
  obtain ⟨N3, hN3⟩ : ∃ N, N = (dig D).length := ⟨_, rfl⟩
  rw [← hN3]
  have H3 : Hid (N3 = (dig D).length) := hN3
  clear hN3
  replace X0 := kkeep k3 X0
  replace Y0 := kkeep k3 Y0
  have k03 := (k1.trans k2).trans k3
  have HS : Hid (Ls w3 (.slice p1 N1 c1) (dig X) ∧ Ls w3 (.slice p2 N2 c2) (dig Y) ∧ Ls w3 (.slice p3 N3 c3) (dig D)) := ⟨⟨p1, c1, by rw [H1.out], (s1.grown k2).grown k3, m1⟩, ⟨p2, c2, by rw [H2.out], s2.grown k3, m2⟩, ⟨p3, c3, by rw [H3.out], s3, m3⟩⟩
  clear t3' s1 s2 s3 m1 m2 m3 k1 k2 k3 H1 H2 H3 X1 X2 Y1 Y2
  -- the last region
  replace r0 := kkeep k03 r0
  replace r1 := kkeep k03 r1
  replace r2 := kkeep k03 r2
  replace f0 := (kfro k03 hlt).trans f0
  replace f1 := (kfro k03 hlt).trans f1
  replace f2 := (kfro k03 hlt).trans f2
  have hlt3 := cell_lt r0
  have kS : Kp wA w3 := HW.out.2.2.2.2.2.2.2.1.trans k03
  have kD : Kp wA w3.drew := kS.drew
  have hge : wA.heap.size ≤ (⟨B + 2, 0, none⟩ : Addr).block := by have := HW.out.2.2.2.2.1; have := HW.out.2.2.2.2.2.1; simp only; omega
  have HP : Hid (∀ W, Kp w3 W → Calls Tryz.prog 74 #[.slice p1 N1 c1, .slice p2 N2 c2] W fun e w' => ∃ p c, e = .returned (.slice p (dig (X + Y)).length c) ∧ Arr w' p (dig (X + Y)) ∧ (dig (X + Y)).length ≤ c ∧ Kp W w') := fun W kk => plusR _ _ X Y W (HS.out.1.kp kk) (HS.out.2.1.kp kk) (by have := HL.out; omega) (by have := HL.out; omega)
  have HFR : Hid (∀ (p : Option Addr) (c : Nat) (W : World), Kp w3 W → Arr W p (dig (X + Y)) → (dig (X + Y)).length ≤ c → Calls Tryz.prog 71 #[.bool sa, .slice p (dig (X + Y)).length c, .slice p3 N3 c3, .int .i64 0] W fun e w' => ∃ (vn vd : Value) (a' b' : Nat) (ng : Bool), e = .returned (.agg #[.bool ng, vn, vd]) ∧ Own w' W.heap.size vn (dig a') ∧ Own w' W.heap.size vd (dig b') ∧ (FracX (X + Y) D 0 a' b' ∧ (X + Y ≠ 0 → ng = sa)) ∧ Kp W w') := by
    show ∀ (p : Option Addr) (c : Nat) (W : World), Kp w3 W → Arr W p (dig (X + Y)) → (dig (X + Y)).length ≤ c → Calls Tryz.prog 71 #[.bool sa, .slice p (dig (X + Y)).length c, .slice p3 N3 c3, .int .i64 0] W fun e w' => ∃ (vn vd : Value) (a' b' : Nat) (ng : Bool), e = .returned (.agg #[.bool ng, vn, vd]) ∧ Own w' W.heap.size vn (dig a') ∧ Own w' W.heap.size vd (dig b') ∧ (FracX (X + Y) D 0 a' b' ∧ (X + Y ≠ 0 → ng = sa)) ∧ Kp W w'
    intro p c W kk ar ll
    obtain ⟨z, q1, q2, q3, q4⟩ := HL.out
    have g := fracX_ sa (.slice p (dig (X + Y)).length c) (.slice p3 N3 c3) (dig (X + Y)) (dig D) 0 W ⟨p, c, rfl, ar, ll⟩ (HS.out.2.2.kp kk) (Wd_dig _) (Wd_dig _) (by change len32 _ ≤ _; omega) (by change len32 _ ≤ _; omega) (by rw [val_dig]; exact z) (by decide)
    rw [val_dig, val_dig] at g
    exact g
  obtain ⟨NX, hNX⟩ : ∃ N, N = (dig (X + Y)).length := ⟨_, rfl⟩
  rw [← hNX] at HP HFR
  clear hNX
  go_upto_region 5 with fail
  go_region_held3 (fun w' => w'.cell? ⟨B, 0, none⟩ = some (.bool sa)) ((refine kkeep (W := wA) ?_ x0; (repeat (first | with_reducible exact kB | with_reducible exact kA | with_reducible exact kD | with_reducible exact Kp.refl _ | with_reducible refine Kp.drew ?_ | refine Kp.setCell ?_ hge _)); done)) (first | (go_at_call 71; have hh := ar1; refine (HFR.out pp cc _ ?q1 ?q2 ll1).mono ?_; (case q1 => (repeat (first | with_reducible exact kk1 | with_reducible exact Kp.refl _ | with_reducible refine Kp.drew ?_)); done); (case q2 => exact ar1); rintro e v2 ⟨vn, vd, a', b', ng, rfl, o1, o2, ff, k12⟩; have kk2 : Kp w3 v2 := kk1.trans k12; have kB : Kp wA v2 := kS.trans kk2; obtain ⟨pn, cn, rfl, an, ln⟩ := o1.arr; obtain ⟨pd, cd, rfl, ad, ld⟩ := o2.arr; have R0 := kkeep kk2 r0; have R1 := kkeep kk2 r1; have R2 := kkeep kk2 r2; have F0 := (kfro kk2 hlt3).trans f0; have F1 := (kfro kk2 hlt3).trans f1; have F2 := (kfro kk2 hlt3).trans f2) | (go_at_call 74; refine (HP.out _ ?q3).mono ?_; (case q3 => (repeat (first | with_reducible exact Kp.refl _ | with_reducible refine Kp.drew ?_)); done); rintro e v1 ⟨pp, cc, rfl, ar1, ll1, k01⟩; have kk1 : Kp w3 v1 := Kp.trans ?q4 k01; (case q4 => (repeat (first | with_reducible exact Kp.refl _ | with_reducible refine Kp.drew ?_)); done); have kA : Kp wA v1 := kS.trans kk1))
  have hs1 := Below.size kk1
  obtain ⟨wz, hwz⟩ : ∃ wz, wz = ((v2.setCell ⟨B + 2, 0, none⟩ (.bool ng)).setCell ⟨B + 2, 1, none⟩ (.slice pn (dig a').length cn)).setCell ⟨B + 2, 2, none⟩ (.slice pd (dig b').length cd) := ⟨_, rfl⟩
  have kb : Kb (B + 2) v2 wz := by rw [hwz]; exact (((Kb.refl (B + 2) v2).setCell 0 _).setCell 1 _).setCell 2 _
  have O1 := o1.kb kb (fun g hg => by have := o1.lt g hg; omega)
  have O2 := o2.kb kb (fun g hg => by have := o2.lt g hg; omega)
  have hkw : Kp w wz := kb.kp ((HW.out.2.2.2.2.2.2.1.trans k03).trans kk2) (by rw [HW.out.2.2.2.1]; omega)
  have HO : Hid (Own wz w.heap.size (.slice pn (dig a').length cn) (dig a') ∧ Own wz w.heap.size (.slice pd (dig b').length cd) (dig b') ∧ (FracX (X + Y) D 0 a' b' ∧ (X + Y ≠ 0 → ng = sa)) ∧ Kp w wz ∧ wz = ((v2.setCell ⟨B + 2, 0, none⟩ (.bool ng)).setCell ⟨B + 2, 1, none⟩ (.slice pn (dig a').length cn)).setCell ⟨B + 2, 2, none⟩ (.slice pd (dig b').length cd)) := ⟨O1.mono (by have e9 := HW.out.2.2.2.1; first | omega | exact Nat.le_trans (show w.heap.size ≤ v1.heap.size by omega) (Nat.le_refl _)), O2.mono (by have e9 := HW.out.2.2.2.1; first | omega | exact Nat.le_trans (show w.heap.size ≤ v1.heap.size by omega) (Nat.le_refl _)), ff, hkw, hwz⟩
  clear hs1 hwz kb O1 O2 hkw o1 o2 ff k12 kk2 kB an ln ad ld kk1 k01 kA ar1 ll1 HP HFR HS HL kS kD hge k03
  go_wp2
  obtain ⟨q1, q2, q3, q4, q5⟩ := HO.out
  rw [q5] at q1 q2 q4
  exact bodyPost_ret (v := .agg #[.bool ng, .slice pn (dig a').length cn, .slice pd (dig b').length cd]) (by simp [results, Tryz.results40, go_sem, R0, R1, R2]) rfl ⟨_, _, a', b', ng, rfl, q1, q2, q3, q4⟩
set_option maxRecDepth 20000 in
set_option maxHeartbeats 1000000 in
theorem raddGeX_ (sa sb : Bool) (a1 a2 b1 b2 : Nat) (P1 P2 Q1 Q2 : Option Addr) (C1 C2 D1 D2 : Nat) (w : World) (h1 : Arr w P1 (dig a1)) (l1 : (dig a1).length ≤ C1) (h2 : Arr w P2 (dig a2)) (l2 : (dig a2).length ≤ C2) (h3 : Arr w Q1 (dig b1)) (l3 : (dig b1).length ≤ D1) (h4 : Arr w Q2 (dig b2)) (l4 : (dig b2).length ≤ D2) (k1 : len32 a1 ≤ 4000) (k2 : len32 a2 ≤ 4000) (k3 : len32 b1 ≤ 4000) (k4 : len32 b2 ≤ 4000) (z2 : a2 ≠ 0) (z4 : b2 ≠ 0) (X Y D : Nat) (hX : X = a1 * b2) (hY : Y = b1 * a2) (hD : D = a2 * b2) (lX : len32 X ≤ 16000) (lY : len32 Y ≤ 16000) (lD : len32 D ≤ 16000) (lS : len32 (X + Y) ≤ 16000) (hst : sa ≠ sb) (hle : Y ≤ X) :
    Calls Tryz.prog 40 #[.agg #[.bool sa, .slice P1 (dig a1).length C1, .slice P2 (dig a2).length C2], .agg #[.bool sb, .slice Q1 (dig b1).length D1, .slice Q2 (dig b2).length D2]] w fun e w' => ∃ (vn vd : Value) (a' b' : Nat) (ng : Bool), e = .returned (.agg #[.bool ng, vn, vd]) ∧ Own w' w.heap.size vn (dig a') ∧ Own w' w.heap.size vd (dig b') ∧ (FracX (X - Y) D 0 a' b' ∧ (X - Y ≠ 0 → ng = sa)) ∧ Kp w w' := by
  have hz : D ≠ 0 := by rw [hD]; exact Nat.mul_ne_zero z2 z4
  obtain ⟨E1, g1⟩ : ∃ E, E = (dig a1).length := ⟨_, rfl⟩
  obtain ⟨E2, g2⟩ : ∃ E, E = (dig a2).length := ⟨_, rfl⟩
  obtain ⟨E3, g3⟩ : ∃ E, E = (dig b1).length := ⟨_, rfl⟩
  obtain ⟨E4, g4⟩ : ∃ E, E = (dig b2).length := ⟨_, rfl⟩
  rw [← g1, ← g2, ← g3, ← g4]
  obtain ⟨B, hB⟩ : ∃ B, B = w.heap.size := ⟨_, rfl⟩
  obtain ⟨wA, hwA⟩ : ∃ wA, wA = w.alloc (.cells #[.bool sa, .slice P1 E1 C1, .slice P2 E2 C2] 43) := ⟨_, rfl⟩
  obtain ⟨wB, hwB⟩ : ∃ wB, wB = wA.alloc (.cells #[.bool sb, .slice Q1 E3 D1, .slice Q2 E4 D2] 43) := ⟨_, rfl⟩
  obtain ⟨w0, hw0⟩ : ∃ w0, w0 = wB.alloc (.cells #[.bool false, .slice none 0 0, .slice none 0 0] 43) := ⟨_, rfl⟩
  have sA : wA.heap.size = B + 1 := by rw [hwA, hB]; simp
  have sB : wB.heap.size = B + 2 := by rw [hwB]; simp [sA]
  have x0 : wA.cell? ⟨B, 0, none⟩ = some (.bool sa) := by rw [hwA, hB]; simp [go_sem]
  have x1 : wA.cell? ⟨B, 1, none⟩ = some (.slice P1 E1 C1) := by rw [hwA, hB]; simp [go_sem]
  have x2 : wA.cell? ⟨B, 2, none⟩ = some (.slice P2 E2 C2) := by rw [hwA, hB]; simp [go_sem]
  have y0 : wB.cell? ⟨B + 1, 0, none⟩ = some (.bool sb) := by rw [hwB, ← sA]; simp [go_sem]
  have y1 : wB.cell? ⟨B + 1, 1, none⟩ = some (.slice Q1 E3 D1) := by rw [hwB, ← sA]; simp [go_sem]
  have y2 : wB.cell? ⟨B + 1, 2, none⟩ = some (.slice Q2 E4 D2) := by rw [hwB, ← sA]; simp [go_sem]
  have r0 : w0.cell? ⟨B + 2, 0, none⟩ = some (.bool false) := by rw [hw0, ← sB]; simp [go_sem]
  have r1 : w0.cell? ⟨B + 2, 1, none⟩ = some (.slice none 0 0) := by rw [hw0, ← sB]; simp [go_sem]
  have r2 : w0.cell? ⟨B + 2, 2, none⟩ = some (.slice none 0 0) := by rw [hw0, ← sB]; simp [go_sem]
  have f0 : w0.frozen? ⟨B + 2, 0, none⟩ = false := by rw [hw0, ← sB]; simp [go_sem]
  have f1 : w0.frozen? ⟨B + 2, 1, none⟩ = false := by rw [hw0, ← sB]; simp [go_sem]
  have f2 : w0.frozen? ⟨B + 2, 2, none⟩ = false := by rw [hw0, ← sB]; simp [go_sem]
  have kw : Kp w w0 := by rw [hw0, hwB, hwA]; exact (((Kp.refl w).alloc _).alloc _).alloc _
  have kAB : Kp wA wB := by rw [hwB]; exact (Kp.refl wA).alloc _
  have kB0 : Kp wB w0 := by rw [hw0]; exact (Kp.refl wB).alloc _
  have kA0 : Kp wA w0 := kAB.trans kB0
  have hlt := cell_lt r0
  -- the products
  have t1 := timesR (.slice P1 E1 C1) (.slice Q2 E4 D2) a1 b2 w0 ⟨P1, C1, by rw [g1], h1.grown kw, l1⟩ ⟨Q2, D2, by rw [g4], h4.grown kw, l4⟩ (by omega) (by omega)
  have t2 := fun w9 (k : Kp w0 w9) => timesR (.slice Q1 E3 D1) (.slice P2 E2 C2) b1 a2 w9 ⟨Q1, D1, by rw [g3], h3.grown (kw.trans k), l3⟩ ⟨P2, C2, by rw [g2], h2.grown (kw.trans k), l2⟩ (by omega) (by omega)
  have t3 := fun w9 (k : Kp w0 w9) => timesR (.slice P2 E2 C2) (.slice Q2 E4 D2) a2 b2 w9 ⟨P2, C2, by rw [g2], h2.grown (kw.trans k), l2⟩ ⟨Q2, D2, by rw [g4], h4.grown (kw.trans k), l4⟩ (by omega) (by omega)
  rw [← hX] at t1
  rw [← hY] at t2
  rw [← hD] at t3
  have HW : Hid (w0 = wB.alloc (.cells #[.bool false, .slice none 0 0, .slice none 0 0] 43) ∧ wB = wA.alloc (.cells #[.bool sb, .slice Q1 E3 D1, .slice Q2 E4 D2] 43) ∧ wA = w.alloc (.cells #[.bool sa, .slice P1 E1 C1, .slice P2 E2 C2] 43) ∧ B = w.heap.size ∧ wA.heap.size = B + 1 ∧ wB.heap.size = B + 2 ∧ Kp w w0 ∧ Kp wA w0 ∧ Kp wB w0) := ⟨hw0, hwB, hwA, hB, sA, sB, kw, kA0, kB0⟩
  have X0 := kkeep kA0 x0
  have X1 := kkeep kA0 x1
  have X2 := kkeep kA0 x2
  have Y0 := kkeep kB0 y0
  have Y1 := kkeep kB0 y1
  have Y2 := kkeep kB0 y2
  have HL : Hid (D ≠ 0 ∧ len32 X ≤ 16000 ∧ len32 Y ≤ 16000 ∧ len32 D ≤ 16000 ∧ len32 (X + Y) ≤ 16000) := ⟨hz, lX, lY, lD, lS⟩
  clear hw0 hwB hwA hB sA sB kw kAB kB0 kA0 h1 l1 h2 l2 h3 l3 h4 l4 k1 k2 k3 k4 z2 z4 hX hY hD hz lX lY lD lS g1 g2 g3 g4 x1 x2 y1 y2
  have est : (sa == sb) = false := by cases sa <;> cases sb <;> simp_all
  have est' : decide (sa = sb) = false := by simp [hst]
  clear hst
  have HG : Hid (Y ≤ X) := hle
  clear hle
  go_enter Tryz.func40, Tryz.ntmps40
  go_wp2_with fail
  rw [← HW.out.2.2.2.1]
  try rw [← HW.out.2.2.1]
  try rw [← HW.out.2.1]
  try rw [← HW.out.1]
  refine t1.mono ?_; rintro e w1 ⟨p1, c1, rfl, s1, m1, k1⟩
  obtain ⟨N1, hN1⟩ : ∃ N, N = (dig X).length := ⟨_, rfl⟩
  rw [← hN1]
  have H1 : Hid (N1 = (dig X).length) := hN1
  clear hN1
  replace X0 := kkeep k1 X0
  replace X2 := kkeep k1 X2
  replace Y0 := kkeep k1 Y0
  replace Y1 := kkeep k1 Y1
  replace Y2 := kkeep k1 Y2
  have t2' := t2 w1 k1
  clear t1 t2
  go_wp2_with fail
  refine t2'.mono ?_; rintro e w2 ⟨p2, c2, rfl, s2, m2, k2⟩
  obtain ⟨N2, hN2⟩ : ∃ N, N = (dig Y).length := ⟨_, rfl⟩
  rw [← hN2]
  have H2 : Hid (N2 = (dig Y).length) := hN2
  clear hN2
  replace X0 := kkeep k2 X0
  replace X2 := kkeep k2 X2
  replace Y0 := kkeep k2 Y0
  replace Y2 := kkeep k2 Y2
  have t3' := t3 w2 (k1.trans k2)
  clear t2' t3
  go_wp2_with fail
  refine t3'.mono ?_; rintro e w3 ⟨p3, c3, rfl, s3, m3, k3⟩
  obtain ⟨N3, hN3⟩ : ∃ N, N = (dig D).length := ⟨_, rfl⟩
  rw [← hN3]
  have H3 : Hid (N3 = (dig D).length) := hN3
  clear hN3
  replace X0 := kkeep k3 X0
  replace Y0 := kkeep k3 Y0
  have k03 := (k1.trans k2).trans k3
  have HS : Hid (Ls w3 (.slice p1 N1 c1) (dig X) ∧ Ls w3 (.slice p2 N2 c2) (dig Y) ∧ Ls w3 (.slice p3 N3 c3) (dig D)) := ⟨⟨p1, c1, by rw [H1.out], (s1.grown k2).grown k3, m1⟩, ⟨p2, c2, by rw [H2.out], s2.grown k3, m2⟩, ⟨p3, c3, by rw [H3.out], s3, m3⟩⟩
  clear t3' s1 s2 s3 m1 m2 m3 k1 k2 k3 H1 H2 H3 X1 X2 Y1 Y2
  have hcm := cmpR (.slice p1 N1 c1) (.slice p2 N2 c2) X Y w3 HS.out.1 HS.out.2.1 (by have := blen_len X 16000 HL.out.2.1; omega) (by have := blen_len Y 16000 HL.out.2.2.1; omega)
  obtain ⟨cv9, hcv9⟩ : ∃ cv9, cv9 = cmpN X Y := ⟨_, rfl⟩
  rw [← hcv9] at hcm
  have tcv : 0 ≤ cv9 := by
    rw [hcv9]; unfold cmpN; have := HG.out; rw [if_neg (by omega)]; split <;> omega
  clear hcv9
  go_wp2_with fail
  refine hcm.mono ?_; rintro e w4 ⟨rfl, k4⟩
  clear hcm
  replace X0 := kkeep k4 X0
  replace Y0 := kkeep k4 Y0
  replace HS : Hid (Ls w4 (.slice p1 N1 c1) (dig X) ∧ Ls w4 (.slice p2 N2 c2) (dig Y) ∧ Ls w4 (.slice p3 N3 c3) (dig D)) := ⟨HS.out.1.kp k4, HS.out.2.1.kp k4, HS.out.2.2.kp k4⟩
  replace k03 := k03.trans k4
  clear k4
  -- the last region
  replace r0 := kkeep k03 r0
  replace r1 := kkeep k03 r1
  replace r2 := kkeep k03 r2
  replace f0 := (kfro k03 hlt).trans f0
  replace f1 := (kfro k03 hlt).trans f1
  replace f2 := (kfro k03 hlt).trans f2
  have hlt3 := cell_lt r0
  have kS : Kp wA w4 := HW.out.2.2.2.2.2.2.2.1.trans k03
  have kD : Kp wA w4.drew := kS.drew
  have hge : wA.heap.size ≤ (⟨B + 2, 0, none⟩ : Addr).block := by have := HW.out.2.2.2.2.1; have := HW.out.2.2.2.2.2.1; simp only; omega
  have HP : Hid (∀ W, Kp w4 W → Calls Tryz.prog 76 #[.slice p1 N1 c1, .slice p2 N2 c2] W fun e w' => ∃ p c, e = .returned (.slice p (dig (X - Y)).length c) ∧ Arr w' p (dig (X - Y)) ∧ (dig (X - Y)).length ≤ c ∧ Kp W w') := fun W kk => minusR _ _ X Y W (HS.out.1.kp kk) (HS.out.2.1.kp kk) (by have := HL.out; omega) HG.out
  have HFR : Hid (∀ (p : Option Addr) (c : Nat) (W : World), Kp w4 W → Arr W p (dig (X - Y)) → (dig (X - Y)).length ≤ c → Calls Tryz.prog 71 #[.bool sa, .slice p (dig (X - Y)).length c, .slice p3 N3 c3, .int .i64 0] W fun e w' => ∃ (vn vd : Value) (a' b' : Nat) (ng : Bool), e = .returned (.agg #[.bool ng, vn, vd]) ∧ Own w' W.heap.size vn (dig a') ∧ Own w' W.heap.size vd (dig b') ∧ (FracX (X - Y) D 0 a' b' ∧ (X - Y ≠ 0 → ng = sa)) ∧ Kp W w') := by
    show ∀ (p : Option Addr) (c : Nat) (W : World), Kp w4 W → Arr W p (dig (X - Y)) → (dig (X - Y)).length ≤ c → Calls Tryz.prog 71 #[.bool sa, .slice p (dig (X - Y)).length c, .slice p3 N3 c3, .int .i64 0] W fun e w' => ∃ (vn vd : Value) (a' b' : Nat) (ng : Bool), e = .returned (.agg #[.bool ng, vn, vd]) ∧ Own w' W.heap.size vn (dig a') ∧ Own w' W.heap.size vd (dig b') ∧ (FracX (X - Y) D 0 a' b' ∧ (X - Y ≠ 0 → ng = sa)) ∧ Kp W w'
    intro p c W kk ar ll
    obtain ⟨z, q1, q2, q3, q4⟩ := HL.out
    have g := fracX_ sa (.slice p (dig (X - Y)).length c) (.slice p3 N3 c3) (dig (X - Y)) (dig D) 0 W ⟨p, c, rfl, ar, ll⟩ (HS.out.2.2.kp kk) (Wd_dig _) (Wd_dig _) (by change len32 _ ≤ _; have := len32_mono (Nat.sub_le X Y); omega) (by change len32 _ ≤ _; omega) (by rw [val_dig]; exact z) (by decide)
    rw [val_dig, val_dig] at g
    exact g
  obtain ⟨NX, hNX⟩ : ∃ N, N = (dig (X - Y)).length := ⟨_, rfl⟩
  rw [← hNX] at HP HFR
  clear hNX
  go_upto_region 7 with fail
  go_region_held3 (fun w' => w'.cell? ⟨B, 0, none⟩ = some (.bool sa)) ((refine kkeep (W := wA) ?_ x0; (repeat (first | with_reducible exact kB | with_reducible exact kA | with_reducible exact kD | with_reducible exact Kp.refl _ | with_reducible refine Kp.drew ?_ | refine Kp.setCell ?_ hge _)); done)) (first | (go_at_call 71; have hh := ar1; refine (HFR.out pp cc _ ?q1 ?q2 ll1).mono ?_; (case q1 => (repeat (first | with_reducible exact kk1 | with_reducible exact Kp.refl _ | with_reducible refine Kp.drew ?_)); done); (case q2 => exact ar1); rintro e v2 ⟨vn, vd, a', b', ng, rfl, o1, o2, ff, k12⟩; have kk2 : Kp w4 v2 := kk1.trans k12; have kB : Kp wA v2 := kS.trans kk2; obtain ⟨pn, cn, rfl, an, ln⟩ := o1.arr; obtain ⟨pd, cd, rfl, ad, ld⟩ := o2.arr; have R0 := kkeep kk2 r0; have R1 := kkeep kk2 r1; have R2 := kkeep kk2 r2; have F0 := (kfro kk2 hlt3).trans f0; have F1 := (kfro kk2 hlt3).trans f1; have F2 := (kfro kk2 hlt3).trans f2) | (go_at_call 76; refine (HP.out _ ?q3).mono ?_; (case q3 => (repeat (first | with_reducible exact Kp.refl _ | with_reducible refine Kp.drew ?_)); done); rintro e v1 ⟨pp, cc, rfl, ar1, ll1, k01⟩; have kk1 : Kp w4 v1 := Kp.trans ?q4 k01; (case q4 => (repeat (first | with_reducible exact Kp.refl _ | with_reducible refine Kp.drew ?_)); done); have kA : Kp wA v1 := kS.trans kk1))
  have hs1 := Below.size kk1
  obtain ⟨wz, hwz⟩ : ∃ wz, wz = ((v2.setCell ⟨B + 2, 0, none⟩ (.bool ng)).setCell ⟨B + 2, 1, none⟩ (.slice pn (dig a').length cn)).setCell ⟨B + 2, 2, none⟩ (.slice pd (dig b').length cd) := ⟨_, rfl⟩
  have kb : Kb (B + 2) v2 wz := by rw [hwz]; exact (((Kb.refl (B + 2) v2).setCell 0 _).setCell 1 _).setCell 2 _
  have O1 := o1.kb kb (fun g hg => by have := o1.lt g hg; omega)
  have O2 := o2.kb kb (fun g hg => by have := o2.lt g hg; omega)
  have hkw : Kp w wz := kb.kp ((HW.out.2.2.2.2.2.2.1.trans k03).trans kk2) (by rw [HW.out.2.2.2.1]; omega)
  have HO : Hid (Own wz w.heap.size (.slice pn (dig a').length cn) (dig a') ∧ Own wz w.heap.size (.slice pd (dig b').length cd) (dig b') ∧ (FracX (X - Y) D 0 a' b' ∧ (X - Y ≠ 0 → ng = sa)) ∧ Kp w wz ∧ wz = ((v2.setCell ⟨B + 2, 0, none⟩ (.bool ng)).setCell ⟨B + 2, 1, none⟩ (.slice pn (dig a').length cn)).setCell ⟨B + 2, 2, none⟩ (.slice pd (dig b').length cd)) := ⟨O1.mono (by have e9 := HW.out.2.2.2.1; first | omega | exact Nat.le_trans (show w.heap.size ≤ v1.heap.size by omega) (Nat.le_refl _)), O2.mono (by have e9 := HW.out.2.2.2.1; first | omega | exact Nat.le_trans (show w.heap.size ≤ v1.heap.size by omega) (Nat.le_refl _)), ff, hkw, hwz⟩
  clear hs1 hwz kb O1 O2 hkw o1 o2 ff k12 kk2 kB an ln ad ld kk1 k01 kA ar1 ll1 HP HFR HS HL kS kD hge k03
  go_wp2
  obtain ⟨q1, q2, q3, q4, q5⟩ := HO.out
  rw [q5] at q1 q2 q4
  exact bodyPost_ret (v := .agg #[.bool ng, .slice pn (dig a').length cn, .slice pd (dig b').length cd]) (by simp [results, Tryz.results40, go_sem, R0, R1, R2]) rfl ⟨_, _, a', b', ng, rfl, q1, q2, q3, q4⟩
set_option maxRecDepth 20000 in
set_option maxHeartbeats 1000000 in
theorem raddLtX_ (sa sb : Bool) (a1 a2 b1 b2 : Nat) (P1 P2 Q1 Q2 : Option Addr) (C1 C2 D1 D2 : Nat) (w : World) (h1 : Arr w P1 (dig a1)) (l1 : (dig a1).length ≤ C1) (h2 : Arr w P2 (dig a2)) (l2 : (dig a2).length ≤ C2) (h3 : Arr w Q1 (dig b1)) (l3 : (dig b1).length ≤ D1) (h4 : Arr w Q2 (dig b2)) (l4 : (dig b2).length ≤ D2) (k1 : len32 a1 ≤ 4000) (k2 : len32 a2 ≤ 4000) (k3 : len32 b1 ≤ 4000) (k4 : len32 b2 ≤ 4000) (z2 : a2 ≠ 0) (z4 : b2 ≠ 0) (X Y D : Nat) (hX : X = a1 * b2) (hY : Y = b1 * a2) (hD : D = a2 * b2) (lX : len32 X ≤ 16000) (lY : len32 Y ≤ 16000) (lD : len32 D ≤ 16000) (lS : len32 (X + Y) ≤ 16000) (hst : sa ≠ sb) (hle : X < Y) :
    Calls Tryz.prog 40 #[.agg #[.bool sa, .slice P1 (dig a1).length C1, .slice P2 (dig a2).length C2], .agg #[.bool sb, .slice Q1 (dig b1).length D1, .slice Q2 (dig b2).length D2]] w fun e w' => ∃ (vn vd : Value) (a' b' : Nat) (ng : Bool), e = .returned (.agg #[.bool ng, vn, vd]) ∧ Own w' w.heap.size vn (dig a') ∧ Own w' w.heap.size vd (dig b') ∧ (FracX (Y - X) D 0 a' b' ∧ (Y - X ≠ 0 → ng = sb)) ∧ Kp w w' := by
  have hz : D ≠ 0 := by rw [hD]; exact Nat.mul_ne_zero z2 z4
  obtain ⟨E1, g1⟩ : ∃ E, E = (dig a1).length := ⟨_, rfl⟩
  obtain ⟨E2, g2⟩ : ∃ E, E = (dig a2).length := ⟨_, rfl⟩
  obtain ⟨E3, g3⟩ : ∃ E, E = (dig b1).length := ⟨_, rfl⟩
  obtain ⟨E4, g4⟩ : ∃ E, E = (dig b2).length := ⟨_, rfl⟩
  rw [← g1, ← g2, ← g3, ← g4]
  obtain ⟨B, hB⟩ : ∃ B, B = w.heap.size := ⟨_, rfl⟩
  obtain ⟨wA, hwA⟩ : ∃ wA, wA = w.alloc (.cells #[.bool sa, .slice P1 E1 C1, .slice P2 E2 C2] 43) := ⟨_, rfl⟩
  obtain ⟨wB, hwB⟩ : ∃ wB, wB = wA.alloc (.cells #[.bool sb, .slice Q1 E3 D1, .slice Q2 E4 D2] 43) := ⟨_, rfl⟩
  obtain ⟨w0, hw0⟩ : ∃ w0, w0 = wB.alloc (.cells #[.bool false, .slice none 0 0, .slice none 0 0] 43) := ⟨_, rfl⟩
  have sA : wA.heap.size = B + 1 := by rw [hwA, hB]; simp
  have sB : wB.heap.size = B + 2 := by rw [hwB]; simp [sA]
  have x0 : wA.cell? ⟨B, 0, none⟩ = some (.bool sa) := by rw [hwA, hB]; simp [go_sem]
  have x1 : wA.cell? ⟨B, 1, none⟩ = some (.slice P1 E1 C1) := by rw [hwA, hB]; simp [go_sem]
  have x2 : wA.cell? ⟨B, 2, none⟩ = some (.slice P2 E2 C2) := by rw [hwA, hB]; simp [go_sem]
  have y0 : wB.cell? ⟨B + 1, 0, none⟩ = some (.bool sb) := by rw [hwB, ← sA]; simp [go_sem]
  have y1 : wB.cell? ⟨B + 1, 1, none⟩ = some (.slice Q1 E3 D1) := by rw [hwB, ← sA]; simp [go_sem]
  have y2 : wB.cell? ⟨B + 1, 2, none⟩ = some (.slice Q2 E4 D2) := by rw [hwB, ← sA]; simp [go_sem]
  have r0 : w0.cell? ⟨B + 2, 0, none⟩ = some (.bool false) := by rw [hw0, ← sB]; simp [go_sem]
  have r1 : w0.cell? ⟨B + 2, 1, none⟩ = some (.slice none 0 0) := by rw [hw0, ← sB]; simp [go_sem]
  have r2 : w0.cell? ⟨B + 2, 2, none⟩ = some (.slice none 0 0) := by rw [hw0, ← sB]; simp [go_sem]
  have f0 : w0.frozen? ⟨B + 2, 0, none⟩ = false := by rw [hw0, ← sB]; simp [go_sem]
  have f1 : w0.frozen? ⟨B + 2, 1, none⟩ = false := by rw [hw0, ← sB]; simp [go_sem]
  have f2 : w0.frozen? ⟨B + 2, 2, none⟩ = false := by rw [hw0, ← sB]; simp [go_sem]
  have kw : Kp w w0 := by rw [hw0, hwB, hwA]; exact (((Kp.refl w).alloc _).alloc _).alloc _
  have kAB : Kp wA wB := by rw [hwB]; exact (Kp.refl wA).alloc _
  have kB0 : Kp wB w0 := by rw [hw0]; exact (Kp.refl wB).alloc _
  have kA0 : Kp wA w0 := kAB.trans kB0
  have hlt := cell_lt r0
  -- the products
  have t1 := timesR (.slice P1 E1 C1) (.slice Q2 E4 D2) a1 b2 w0 ⟨P1, C1, by rw [g1], h1.grown kw, l1⟩ ⟨Q2, D2, by rw [g4], h4.grown kw, l4⟩ (by omega) (by omega)
  have t2 := fun w9 (k : Kp w0 w9) => timesR (.slice Q1 E3 D1) (.slice P2 E2 C2) b1 a2 w9 ⟨Q1, D1, by rw [g3], h3.grown (kw.trans k), l3⟩ ⟨P2, C2, by rw [g2], h2.grown (kw.trans k), l2⟩ (by omega) (by omega)
  have t3 := fun w9 (k : Kp w0 w9) => timesR (.slice P2 E2 C2) (.slice Q2 E4 D2) a2 b2 w9 ⟨P2, C2, by rw [g2], h2.grown (kw.trans k), l2⟩ ⟨Q2, D2, by rw [g4], h4.grown (kw.trans k), l4⟩ (by omega) (by omega)
  rw [← hX] at t1
  rw [← hY] at t2
  rw [← hD] at t3
  have HW : Hid (w0 = wB.alloc (.cells #[.bool false, .slice none 0 0, .slice none 0 0] 43) ∧ wB = wA.alloc (.cells #[.bool sb, .slice Q1 E3 D1, .slice Q2 E4 D2] 43) ∧ wA = w.alloc (.cells #[.bool sa, .slice P1 E1 C1, .slice P2 E2 C2] 43) ∧ B = w.heap.size ∧ wA.heap.size = B + 1 ∧ wB.heap.size = B + 2 ∧ Kp w w0 ∧ Kp wA w0 ∧ Kp wB w0) := ⟨hw0, hwB, hwA, hB, sA, sB, kw, kA0, kB0⟩
  have X0 := kkeep kA0 x0
  have X1 := kkeep kA0 x1
  have X2 := kkeep kA0 x2
  have Y0 := kkeep kB0 y0
  have Y1 := kkeep kB0 y1
  have Y2 := kkeep kB0 y2
  have HL : Hid (D ≠ 0 ∧ len32 X ≤ 16000 ∧ len32 Y ≤ 16000 ∧ len32 D ≤ 16000 ∧ len32 (X + Y) ≤ 16000) := ⟨hz, lX, lY, lD, lS⟩
  clear hw0 hwB hwA hB sA sB kw kAB kB0 kA0 h1 l1 h2 l2 h3 l3 h4 l4 k1 k2 k3 k4 z2 z4 hX hY hD hz lX lY lD lS g1 g2 g3 g4 x1 x2 y1 y2
  have est : (sa == sb) = false := by cases sa <;> cases sb <;> simp_all
  have est' : decide (sa = sb) = false := by simp [hst]
  clear hst
  have HG : Hid (X < Y) := hle
  clear hle
  go_enter Tryz.func40, Tryz.ntmps40
  go_wp2_with fail
  rw [← HW.out.2.2.2.1]
  try rw [← HW.out.2.2.1]
  try rw [← HW.out.2.1]
  try rw [← HW.out.1]
  refine t1.mono ?_; rintro e w1 ⟨p1, c1, rfl, s1, m1, k1⟩
  obtain ⟨N1, hN1⟩ : ∃ N, N = (dig X).length := ⟨_, rfl⟩
  rw [← hN1]
  have H1 : Hid (N1 = (dig X).length) := hN1
  clear hN1
  replace X0 := kkeep k1 X0
  replace X2 := kkeep k1 X2
  replace Y0 := kkeep k1 Y0
  replace Y1 := kkeep k1 Y1
  replace Y2 := kkeep k1 Y2
  have t2' := t2 w1 k1
  clear t1 t2
  go_wp2_with fail
  refine t2'.mono ?_; rintro e w2 ⟨p2, c2, rfl, s2, m2, k2⟩
  obtain ⟨N2, hN2⟩ : ∃ N, N = (dig Y).length := ⟨_, rfl⟩
  rw [← hN2]
  have H2 : Hid (N2 = (dig Y).length) := hN2
  clear hN2
  replace X0 := kkeep k2 X0
  replace X2 := kkeep k2 X2
  replace Y0 := kkeep k2 Y0
  replace Y2 := kkeep k2 Y2
  have t3' := t3 w2 (k1.trans k2)
  clear t2' t3
  go_wp2_with fail
  refine t3'.mono ?_; rintro e w3 ⟨p3, c3, rfl, s3, m3, k3⟩
  obtain ⟨N3, hN3⟩ : ∃ N, N = (dig D).length := ⟨_, rfl⟩
  rw [← hN3]
  have H3 : Hid (N3 = (dig D).length) := hN3
  clear hN3
  replace X0 := kkeep k3 X0
  replace Y0 := kkeep k3 Y0
  have k03 := (k1.trans k2).trans k3
  have HS : Hid (Ls w3 (.slice p1 N1 c1) (dig X) ∧ Ls w3 (.slice p2 N2 c2) (dig Y) ∧ Ls w3 (.slice p3 N3 c3) (dig D)) := ⟨⟨p1, c1, by rw [H1.out], (s1.grown k2).grown k3, m1⟩, ⟨p2, c2, by rw [H2.out], s2.grown k3, m2⟩, ⟨p3, c3, by rw [H3.out], s3, m3⟩⟩
  clear t3' s1 s2 s3 m1 m2 m3 k1 k2 k3 H1 H2 H3 X1 X2 Y1 Y2
  have hcm := cmpR (.slice p1 N1 c1) (.slice p2 N2 c2) X Y w3 HS.out.1 HS.out.2.1 (by have := blen_len X 16000 HL.out.2.1; omega) (by have := blen_len Y 16000 HL.out.2.2.1; omega)
  obtain ⟨cv9, hcv9⟩ : ∃ cv9, cv9 = cmpN X Y := ⟨_, rfl⟩
  rw [← hcv9] at hcm
  have tcv : ¬ 0 ≤ cv9 := by
    rw [hcv9]; unfold cmpN; rw [if_pos HG.out]; decide
  clear hcv9
  go_wp2_with fail
  refine hcm.mono ?_; rintro e w4 ⟨rfl, k4⟩
  clear hcm
  replace X0 := kkeep k4 X0
  replace Y0 := kkeep k4 Y0
  replace HS : Hid (Ls w4 (.slice p1 N1 c1) (dig X) ∧ Ls w4 (.slice p2 N2 c2) (dig Y) ∧ Ls w4 (.slice p3 N3 c3) (dig D)) := ⟨HS.out.1.kp k4, HS.out.2.1.kp k4, HS.out.2.2.kp k4⟩
  replace k03 := k03.trans k4
  clear k4
  -- the last region
  replace r0 := kkeep k03 r0
  replace r1 := kkeep k03 r1
  replace r2 := kkeep k03 r2
  replace f0 := (kfro k03 hlt).trans f0
  replace f1 := (kfro k03 hlt).trans f1
  replace f2 := (kfro k03 hlt).trans f2
  have hlt3 := cell_lt r0
  have kS : Kp wB w4 := HW.out.2.2.2.2.2.2.2.2.trans k03
  have kD : Kp wB w4.drew := kS.drew
  have hge : wB.heap.size ≤ (⟨B + 2, 0, none⟩ : Addr).block := by have := HW.out.2.2.2.2.1; have := HW.out.2.2.2.2.2.1; simp only; omega
  have HP : Hid (∀ W, Kp w4 W → Calls Tryz.prog 76 #[.slice p2 N2 c2, .slice p1 N1 c1] W fun e w' => ∃ p c, e = .returned (.slice p (dig (Y - X)).length c) ∧ Arr w' p (dig (Y - X)) ∧ (dig (Y - X)).length ≤ c ∧ Kp W w') := fun W kk => minusR _ _ Y X W (HS.out.2.1.kp kk) (HS.out.1.kp kk) (by have := HL.out; omega) (Nat.le_of_lt HG.out)
  have HFR : Hid (∀ (p : Option Addr) (c : Nat) (W : World), Kp w4 W → Arr W p (dig (Y - X)) → (dig (Y - X)).length ≤ c → Calls Tryz.prog 71 #[.bool sb, .slice p (dig (Y - X)).length c, .slice p3 N3 c3, .int .i64 0] W fun e w' => ∃ (vn vd : Value) (a' b' : Nat) (ng : Bool), e = .returned (.agg #[.bool ng, vn, vd]) ∧ Own w' W.heap.size vn (dig a') ∧ Own w' W.heap.size vd (dig b') ∧ (FracX (Y - X) D 0 a' b' ∧ (Y - X ≠ 0 → ng = sb)) ∧ Kp W w') := by
    show ∀ (p : Option Addr) (c : Nat) (W : World), Kp w4 W → Arr W p (dig (Y - X)) → (dig (Y - X)).length ≤ c → Calls Tryz.prog 71 #[.bool sb, .slice p (dig (Y - X)).length c, .slice p3 N3 c3, .int .i64 0] W fun e w' => ∃ (vn vd : Value) (a' b' : Nat) (ng : Bool), e = .returned (.agg #[.bool ng, vn, vd]) ∧ Own w' W.heap.size vn (dig a') ∧ Own w' W.heap.size vd (dig b') ∧ (FracX (Y - X) D 0 a' b' ∧ (Y - X ≠ 0 → ng = sb)) ∧ Kp W w'
    intro p c W kk ar ll
    obtain ⟨z, q1, q2, q3, q4⟩ := HL.out
    have g := fracX_ sb (.slice p (dig (Y - X)).length c) (.slice p3 N3 c3) (dig (Y - X)) (dig D) 0 W ⟨p, c, rfl, ar, ll⟩ (HS.out.2.2.kp kk) (Wd_dig _) (Wd_dig _) (by change len32 _ ≤ _; have := len32_mono (Nat.sub_le Y X); omega) (by change len32 _ ≤ _; omega) (by rw [val_dig]; exact z) (by decide)
    rw [val_dig, val_dig] at g
    exact g
  obtain ⟨NX, hNX⟩ : ∃ N, N = (dig (Y - X)).length := ⟨_, rfl⟩
  rw [← hNX] at HP HFR
  clear hNX
  go_upto_region 8 with fail
  go_region_held3 (fun w' => w'.cell? ⟨B + 1, 0, none⟩ = some (.bool sb)) ((refine kkeep (W := wB) ?_ y0; (repeat (first | with_reducible exact kB | with_reducible exact kA | with_reducible exact kD | with_reducible exact Kp.refl _ | with_reducible refine Kp.drew ?_ | refine Kp.setCell ?_ hge _)); done)) (first | (go_at_call 71; have hh := ar1; refine (HFR.out pp cc _ ?q1 ?q2 ll1).mono ?_; (case q1 => (repeat (first | with_reducible exact kk1 | with_reducible exact Kp.refl _ | with_reducible refine Kp.drew ?_)); done); (case q2 => exact ar1); rintro e v2 ⟨vn, vd, a', b', ng, rfl, o1, o2, ff, k12⟩; have kk2 : Kp w4 v2 := kk1.trans k12; have kB : Kp wB v2 := kS.trans kk2; obtain ⟨pn, cn, rfl, an, ln⟩ := o1.arr; obtain ⟨pd, cd, rfl, ad, ld⟩ := o2.arr; have R0 := kkeep kk2 r0; have R1 := kkeep kk2 r1; have R2 := kkeep kk2 r2; have F0 := (kfro kk2 hlt3).trans f0; have F1 := (kfro kk2 hlt3).trans f1; have F2 := (kfro kk2 hlt3).trans f2) | (go_at_call 76; refine (HP.out _ ?q3).mono ?_; (case q3 => (repeat (first | with_reducible exact Kp.refl _ | with_reducible refine Kp.drew ?_)); done); rintro e v1 ⟨pp, cc, rfl, ar1, ll1, k01⟩; have kk1 : Kp w4 v1 := Kp.trans ?q4 k01; (case q4 => (repeat (first | with_reducible exact Kp.refl _ | with_reducible refine Kp.drew ?_)); done); have kA : Kp wB v1 := kS.trans kk1))
  have hs1 := Below.size kk1
  obtain ⟨wz, hwz⟩ : ∃ wz, wz = ((v2.setCell ⟨B + 2, 0, none⟩ (.bool ng)).setCell ⟨B + 2, 1, none⟩ (.slice pn (dig a').length cn)).setCell ⟨B + 2, 2, none⟩ (.slice pd (dig b').length cd) := ⟨_, rfl⟩
  have kb : Kb (B + 2) v2 wz := by rw [hwz]; exact (((Kb.refl (B + 2) v2).setCell 0 _).setCell 1 _).setCell 2 _
  have O1 := o1.kb kb (fun g hg => by have := o1.lt g hg; omega)
  have O2 := o2.kb kb (fun g hg => by have := o2.lt g hg; omega)
  have hkw : Kp w wz := kb.kp ((HW.out.2.2.2.2.2.2.1.trans k03).trans kk2) (by rw [HW.out.2.2.2.1]; omega)
  have HO : Hid (Own wz w.heap.size (.slice pn (dig a').length cn) (dig a') ∧ Own wz w.heap.size (.slice pd (dig b').length cd) (dig b') ∧ (FracX (Y - X) D 0 a' b' ∧ (Y - X ≠ 0 → ng = sb)) ∧ Kp w wz ∧ wz = ((v2.setCell ⟨B + 2, 0, none⟩ (.bool ng)).setCell ⟨B + 2, 1, none⟩ (.slice pn (dig a').length cn)).setCell ⟨B + 2, 2, none⟩ (.slice pd (dig b').length cd)) := ⟨O1.mono (by have e9 := HW.out.2.2.2.1; first | omega | exact Nat.le_trans (show w.heap.size ≤ v1.heap.size by omega) (Nat.le_refl _)), O2.mono (by have e9 := HW.out.2.2.2.1; first | omega | exact Nat.le_trans (show w.heap.size ≤ v1.heap.size by omega) (Nat.le_refl _)), ff, hkw, hwz⟩
  clear hs1 hwz kb O1 O2 hkw o1 o2 ff k12 kk2 kB an ln ad ld kk1 k01 kA ar1 ll1 HP HFR HS HL kS kD hge k03
  go_wp2
  obtain ⟨q1, q2, q3, q4, q5⟩ := HO.out
  rw [q5] at q1 q2 q4
  exact bodyPost_ret (v := .agg #[.bool ng, .slice pn (dig a').length cn, .slice pd (dig b').length cd]) (by simp [results, Tryz.results40, go_sem, R0, R1, R2]) rfl ⟨_, _, a', b', ng, rfl, q1, q2, q3, q4⟩
end Go.Proofs.YteedfmghgkmofaaGreatDoor
namespace Go.Proofs.YteedfmghgkmofaaGreatDoor
open Go.RowKit
set_option maxRecDepth 20000 in
set_option maxHeartbeats 1000000 in
theorem rmulX_ (sa sb : Bool) (a1 a2 b1 b2 : Nat) (P1 P2 Q1 Q2 : Option Addr) (C1 C2 D1 D2 : Nat) (w : World) (h1 : Arr w P1 (dig a1)) (l1 : (dig a1).length ≤ C1) (h2 : Arr w P2 (dig a2)) (l2 : (dig a2).length ≤ C2) (h3 : Arr w Q1 (dig b1)) (l3 : (dig b1).length ≤ D1) (h4 : Arr w Q2 (dig b2)) (l4 : (dig b2).length ≤ D2) (k1 : len32 a1 ≤ 4000) (k2 : len32 a2 ≤ 4000) (k3 : len32 b1 ≤ 4000) (k4 : len32 b2 ≤ 4000) (z2 : a2 ≠ 0) (z4 : b2 ≠ 0) (X D : Nat) (hX : X = a1 * b1) (hD : D = a2 * b2) (lX : len32 X ≤ 16000) (lD : len32 D ≤ 16000) :
    Calls Tryz.prog 39 #[.agg #[.bool sa, .slice P1 (dig a1).length C1, .slice P2 (dig a2).length C2], .agg #[.bool sb, .slice Q1 (dig b1).length D1, .slice Q2 (dig b2).length D2]] w fun e w' => ∃ (vn vd : Value) (a' b' : Nat) (ng : Bool), e = .returned (.agg #[.bool ng, vn, vd]) ∧ Own w' w.heap.size vn (dig a') ∧ Own w' w.heap.size vd (dig b') ∧ (FracX X D 0 a' b' ∧ (X ≠ 0 → ng = (sa ^^ sb))) ∧ Kp w w' := by
  have hz : D ≠ 0 := by rw [hD]; exact Nat.mul_ne_zero z2 z4
  obtain ⟨E1, g1⟩ : ∃ E, E = (dig a1).length := ⟨_, rfl⟩
  obtain ⟨E2, g2⟩ : ∃ E, E = (dig a2).length := ⟨_, rfl⟩
  obtain ⟨E3, g3⟩ : ∃ E, E = (dig b1).length := ⟨_, rfl⟩
  obtain ⟨E4, g4⟩ : ∃ E, E = (dig b2).length := ⟨_, rfl⟩
  rw [← g1, ← g2, ← g3, ← g4]
  obtain ⟨B, hB⟩ : ∃ B, B = w.heap.size := ⟨_, rfl⟩
  obtain ⟨wA, hwA⟩ : ∃ wA, wA = w.alloc (.cells #[.bool sa, .slice P1 E1 C1, .slice P2 E2 C2] 43) := ⟨_, rfl⟩
  obtain ⟨wB, hwB⟩ : ∃ wB, wB = wA.alloc (.cells #[.bool sb, .slice Q1 E3 D1, .slice Q2 E4 D2] 43) := ⟨_, rfl⟩
  obtain ⟨w0, hw0⟩ : ∃ w0, w0 = wB.alloc (.cells #[.bool false, .slice none 0 0, .slice none 0 0] 43) := ⟨_, rfl⟩
  have sA : wA.heap.size = B + 1 := by rw [hwA, hB]; simp
  have sB : wB.heap.size = B + 2 := by rw [hwB]; simp [sA]
  have kAB : Kp wA wB := by rw [hwB]; exact (Kp.refl wA).alloc _
  have x0 : wB.cell? ⟨B, 0, none⟩ = some (.bool sa) := kkeep kAB (by rw [hwA, hB]; simp [go_sem])
  have x1 : wB.cell? ⟨B, 1, none⟩ = some (.slice P1 E1 C1) := kkeep kAB (by rw [hwA, hB]; simp [go_sem])
  have x2 : wB.cell? ⟨B, 2, none⟩ = some (.slice P2 E2 C2) := kkeep kAB (by rw [hwA, hB]; simp [go_sem])
  have y0 : wB.cell? ⟨B + 1, 0, none⟩ = some (.bool sb) := by rw [hwB, ← sA]; simp [go_sem]
  have y1 : wB.cell? ⟨B + 1, 1, none⟩ = some (.slice Q1 E3 D1) := by rw [hwB, ← sA]; simp [go_sem]
  have y2 : wB.cell? ⟨B + 1, 2, none⟩ = some (.slice Q2 E4 D2) := by rw [hwB, ← sA]; simp [go_sem]
  have r0 : w0.cell? ⟨B + 2, 0, none⟩ = some (.bool false) := by rw [hw0, ← sB]; simp [go_sem]
  have r1 : w0.cell? ⟨B + 2, 1, none⟩ = some (.slice none 0 0) := by rw [hw0, ← sB]; simp [go_sem]
  have r2 : w0.cell? ⟨B + 2, 2, none⟩ = some (.slice none 0 0) := by rw [hw0, ← sB]; simp [go_sem]
  have f0 : w0.frozen? ⟨B + 2, 0, none⟩ = false := by rw [hw0, ← sB]; simp [go_sem]
  have f1 : w0.frozen? ⟨B + 2, 1, none⟩ = false := by rw [hw0, ← sB]; simp [go_sem]
  have f2 : w0.frozen? ⟨B + 2, 2, none⟩ = false := by rw [hw0, ← sB]; simp [go_sem]
  have kw : Kp w w0 := by rw [hw0, hwB, hwA]; exact (((Kp.refl w).alloc _).alloc _).alloc _
  have kS : Kp wB w0 := by rw [hw0]; exact (Kp.refl wB).alloc _
  have kD : Kp wB w0.drew := kS.drew
  have hge : wB.heap.size ≤ (⟨B + 2, 0, none⟩ : Addr).block := by simp only; omega
  have hlt := cell_lt r0
  have HP1 : Hid (∀ W : World, Kp w0 W → Calls Tryz.prog 73 #[.slice P1 E1 C1, .slice Q1 E3 D1] W fun e w' => ∃ p c, e = .returned (.slice p (dig X).length c) ∧ Arr w' p (dig X) ∧ (dig X).length ≤ c ∧ Kp W w') := by
    show ∀ W : World, Kp w0 W → Calls Tryz.prog 73 #[.slice P1 E1 C1, .slice Q1 E3 D1] W fun e w' => ∃ p c, e = .returned (.slice p (dig X).length c) ∧ Arr w' p (dig X) ∧ (dig X).length ≤ c ∧ Kp W w'
    intro W k
    rw [hX]; exact timesR _ _ a1 b1 W ⟨P1, C1, by rw [g1], h1.grown (kw.trans k), l1⟩ ⟨Q1, D1, by rw [g3], h3.grown (kw.trans k), l3⟩ (by omega) (by omega)
  have HP2 : Hid (∀ W : World, Kp w0 W → Calls Tryz.prog 73 #[.slice P2 E2 C2, .slice Q2 E4 D2] W fun e w' => ∃ p c, e = .returned (.slice p (dig D).length c) ∧ Arr w' p (dig D) ∧ (dig D).length ≤ c ∧ Kp W w') := by
    show ∀ W : World, Kp w0 W → Calls Tryz.prog 73 #[.slice P2 E2 C2, .slice Q2 E4 D2] W fun e w' => ∃ p c, e = .returned (.slice p (dig D).length c) ∧ Arr w' p (dig D) ∧ (dig D).length ≤ c ∧ Kp W w'
    intro W k
    rw [hD]; exact timesR _ _ a2 b2 W ⟨P2, C2, by rw [g2], h2.grown (kw.trans k), l2⟩ ⟨Q2, D2, by rw [g4], h4.grown (kw.trans k), l4⟩ (by omega) (by omega)
  obtain ⟨NX, hNX⟩ : ∃ N, N = (dig X).length := ⟨_, rfl⟩
  obtain ⟨ND, hND⟩ : ∃ N, N = (dig D).length := ⟨_, rfl⟩
  obtain ⟨st, hst⟩ : ∃ st, st = (sa ^^ sb) := ⟨_, rfl⟩
  have hst2 : (sa != sb) = st := by rw [hst]
  have hst3 : (!decide (sa = sb)) = st := by rw [hst]; cases sa <;> cases sb <;> rfl
  have hst4 : (!(sa == sb)) = st := by rw [hst]; cases sa <;> cases sb <;> rfl
  have HFR : Hid (∀ (p : Option Addr) (c : Nat) (q : Option Addr) (d : Nat) (W : World), Kp w0 W → Arr W p (dig X) → (dig X).length ≤ c → Arr W q (dig D) → (dig D).length ≤ d → Calls Tryz.prog 71 #[.bool st, .slice p (dig X).length c, .slice q (dig D).length d, .int .i64 0] W fun e w' => ∃ (vn vd : Value) (a' b' : Nat) (ng : Bool), e = .returned (.agg #[.bool ng, vn, vd]) ∧ Own w' W.heap.size vn (dig a') ∧ Own w' W.heap.size vd (dig b') ∧ (FracX X D 0 a' b' ∧ (X ≠ 0 → ng = st)) ∧ Kp W w') := by
    show ∀ (p : Option Addr) (c : Nat) (q : Option Addr) (d : Nat) (W : World), Kp w0 W → Arr W p (dig X) → (dig X).length ≤ c → Arr W q (dig D) → (dig D).length ≤ d → Calls Tryz.prog 71 #[.bool st, .slice p (dig X).length c, .slice q (dig D).length d, .int .i64 0] W fun e w' => ∃ (vn vd : Value) (a' b' : Nat) (ng : Bool), e = .returned (.agg #[.bool ng, vn, vd]) ∧ Own w' W.heap.size vn (dig a') ∧ Own w' W.heap.size vd (dig b') ∧ (FracX X D 0 a' b' ∧ (X ≠ 0 → ng = st)) ∧ Kp W w'
    intro p c q d W kk ar ll ar' ll'
    have g := fracX_ st (.slice p (dig X).length c) (.slice q (dig D).length d) (dig X) (dig D) 0 W ⟨p, c, rfl, ar, ll⟩ ⟨q, d, rfl, ar', ll'⟩ (Wd_dig _) (Wd_dig _) (by change len32 _ ≤ _; omega) (by change len32 _ ≤ _; omega) (by rw [val_dig]; exact hz) (by decide)
    rw [val_dig, val_dig] at g
    exact g
  rw [← hNX, ← hND] at HFR
  rw [← hNX] at HP1
  rw [← hND] at HP2
  rw [← hst]
  have HW : Hid (w0 = wB.alloc (.cells #[.bool false, .slice none 0 0, .slice none 0 0] 43) ∧ wB = wA.alloc (.cells #[.bool sb, .slice Q1 E3 D1, .slice Q2 E4 D2] 43) ∧ wA = w.alloc (.cells #[.bool sa, .slice P1 E1 C1, .slice P2 E2 C2] 43) ∧ B = w.heap.size ∧ Kp w w0) := ⟨hw0, hwB, hwA, hB, kw⟩
  clear hNX hND hst hw0 hwB hwA hB sA sB kw kAB h1 l1 h2 l2 h3 l3 h4 l4 k1 k2 k3 k4 z2 z4 hX hD hz lX lD g1 g2 g3 g4
  go_enter Tryz.func39, Tryz.ntmps39
  go_upto_region 1 with fail
  rw [← HW.out.2.2.2.1]
  try rw [← HW.out.2.2.1]
  try rw [← HW.out.2.1]
  try rw [← HW.out.1]
  go_region_held3 (fun w' => w'.cell? ⟨B, 0, none⟩ = some (.bool sa) ∧ w'.cell? ⟨B, 1, none⟩ = some (.slice P1 E1 C1) ∧ w'.cell? ⟨B, 2, none⟩ = some (.slice P2 E2 C2) ∧ w'.cell? ⟨B + 1, 0, none⟩ = some (.bool sb) ∧ w'.cell? ⟨B + 1, 1, none⟩ = some (.slice Q1 E3 D1) ∧ w'.cell? ⟨B + 1, 2, none⟩ = some (.slice Q2 E4 D2)) (refine ⟨kkeep (W := wB) ?_ x0, kkeep (W := wB) ?_ x1, kkeep (W := wB) ?_ x2, kkeep (W := wB) ?_ y0, kkeep (W := wB) ?_ y1, kkeep (W := wB) ?_ y2⟩ <;> ((repeat (first | with_reducible exact kC | with_reducible exact kB | with_reducible exact kA | with_reducible exact kS | with_reducible exact kD | with_reducible exact Kp.refl _ | with_reducible refine Kp.drew ?_ | refine Kp.setCell ?_ hge _)); done)) (first | (go_at_call 71; have hh := ar2; refine (HFR.out pp cc pq cq _ ?q1 ?q2 ll1 ?q3 ll2).mono ?_; (case q1 => ((repeat (first | with_reducible exact kk2 | with_reducible exact kk1 | with_reducible exact Kp.refl _ | with_reducible refine Kp.drew ?_)); done)); (case q2 => exact ar1.grown k12); (case q3 => exact ar2); rintro e v3 ⟨vn, vd, a', b', ng, rfl, o1, o2, ff, k23⟩; have kk3 : Kp w0 v3 := Kp.trans ?q4 k23; (case q4 => ((repeat (first | with_reducible exact kk2 | with_reducible exact kk1 | with_reducible exact Kp.refl _ | with_reducible refine Kp.drew ?_)); done)); have kC : Kp wB v3 := kS.trans kk3; obtain ⟨pn, cn, rfl, an, ln⟩ := o1.arr; obtain ⟨pd, cd, rfl, ad, ld⟩ := o2.arr; have R0 := kkeep kk3 r0; have R1 := kkeep kk3 r1; have R2 := kkeep kk3 r2; have F0 := (kfro kk3 hlt).trans f0; have F1 := (kfro kk3 hlt).trans f1; have F2 := (kfro kk3 hlt).trans f2) | (go_at_call 73; have hh := ar1; refine (HP2.out _ ?q5).mono ?_; (case q5 => ((repeat (first | with_reducible exact kk2 | with_reducible exact kk1 | with_reducible exact Kp.refl _ | with_reducible refine Kp.drew ?_)); done)); rintro e v2 ⟨pq, cq, rfl, ar2, ll2, k12⟩; have kk2 : Kp w0 v2 := Kp.trans ?q7 k12; (case q7 => ((repeat (first | with_reducible exact kk2 | with_reducible exact kk1 | with_reducible exact Kp.refl _ | with_reducible refine Kp.drew ?_)); done)); have kB : Kp wB v2 := kS.trans kk2) | (go_at_call 73; refine (HP1.out _ ?q8).mono ?_; (case q8 => ((repeat (first | with_reducible exact kk2 | with_reducible exact kk1 | with_reducible exact Kp.refl _ | with_reducible refine Kp.drew ?_)); done)); rintro e v1 ⟨pp, cc, rfl, ar1, ll1, k01⟩; have kk1 : Kp w0 v1 := Kp.trans ?q10 k01; (case q10 => ((repeat (first | with_reducible exact kk2 | with_reducible exact kk1 | with_reducible exact Kp.refl _ | with_reducible refine Kp.drew ?_)); done)); have kA : Kp wB v1 := kS.trans kk1))
  have hs1 := Below.size kk2
  obtain ⟨wz, hwz⟩ : ∃ wz, wz = ((v3.setCell ⟨B + 2, 0, none⟩ (.bool ng)).setCell ⟨B + 2, 1, none⟩ (.slice pn (dig a').length cn)).setCell ⟨B + 2, 2, none⟩ (.slice pd (dig b').length cd) := ⟨_, rfl⟩
  have kb : Kb (B + 2) v3 wz := by rw [hwz]; exact (((Kb.refl (B + 2) v3).setCell 0 _).setCell 1 _).setCell 2 _
  have O1 := o1.kb kb (fun g hg => by have := o1.lt g hg; omega)
  have O2 := o2.kb kb (fun g hg => by have := o2.lt g hg; omega)
  have hkw : Kp w wz := kb.kp (HW.out.2.2.2.2.trans kk3) (by rw [HW.out.2.2.2.1]; omega)
  have HO : Hid (Own wz w.heap.size (.slice pn (dig a').length cn) (dig a') ∧ Own wz w.heap.size (.slice pd (dig b').length cd) (dig b') ∧ (FracX X D 0 a' b' ∧ (X ≠ 0 → ng = st)) ∧ Kp w wz ∧ wz = ((v3.setCell ⟨B + 2, 0, none⟩ (.bool ng)).setCell ⟨B + 2, 1, none⟩ (.slice pn (dig a').length cn)).setCell ⟨B + 2, 2, none⟩ (.slice pd (dig b').length cd)) := ⟨O1.mono (by have e9 := HW.out.2.2.2.1; first | omega | exact Nat.le_trans (show w.heap.size ≤ v1.heap.size by omega) (Nat.le_refl _)), O2.mono (by have e9 := HW.out.2.2.2.1; first | omega | exact Nat.le_trans (show w.heap.size ≤ v1.heap.size by omega) (Nat.le_refl _)), ff, hkw, hwz⟩
  clear hs1 hwz kb O1 O2 hkw o1 o2 ff k23 kk3 kC an ln ad ld kk2 k12 kB ar2 ll2 kk1 k01 kA ar1 ll1 HP1 HP2 HFR kS kD hge
  go_wp2
  obtain ⟨q1, q2, q3, q4, q5⟩ := HO.out
  rw [q5] at q1 q2 q4
  exact bodyPost_ret (v := .agg #[.bool ng, .slice pn (dig a').length cn, .slice pd (dig b').length cd]) (by simp [results, Tryz.results39, go_sem, R0, R1, R2]) rfl ⟨_, _, a', b', ng, rfl, q1, q2, q3, q4⟩
end Go.Proofs.YteedfmghgkmofaaGreatDoor
namespace Go.Proofs.YteedfmghgkmofaaGreatDoor
open Go.RowKit
set_option maxRecDepth 20000 in
set_option maxHeartbeats 400000 in
theorem fromBitsX_ (n : Bool) (m : Nat) (hm : m < 9218868437227405312) (w : World) :
    Calls Tryz.prog 38 #[.int .u64 ((Fb.wD n m : Nat) : Int)] w fun e w' => ∃ (vn vd : Value) (a b : Nat) (ng : Bool), e = .returned (.agg #[.bool ng, vn, vd]) ∧ Own w' w.heap.size vn (dig a) ∧ Own w' w.heap.size vd (dig b) ∧ (FracX (Fb.sgD m) 1 (Fb.epD m) a b ∧ (Fb.sgD m ≠ 0 → ng = n)) ∧ Kp w w' := by
  obtain ⟨w0, hw0⟩ : ∃ w0, w0 = w.alloc (.cells #[.bool false, .slice none 0 0, .slice none 0 0] 43) := ⟨_, rfl⟩
  have Hw0 : Hid (w0 = w.alloc (.cells #[.bool false, .slice none 0 0, .slice none 0 0] 43)) := hw0
  obtain ⟨X, hX⟩ : ∃ X, X = Fb.wD n m := ⟨_, rfl⟩
  obtain ⟨Q, hQ⟩ : ∃ Q, Q = X / 4503599627370496 := ⟨_, rfl⟩
  obtain ⟨eN, heN⟩ : ∃ eN, eN = m / 4503599627370496 := ⟨_, rfl⟩
  obtain ⟨fN, hfN⟩ : ∃ fN, fN = m % 4503599627370496 := ⟨_, rfl⟩
  obtain ⟨f2, f3, f4, b1, b2, b3⟩ := fb_bits n m X Q eN fN hm hX hQ heN hfN
  have f1 : (X : Int) / 4503599627370496 = (Q : Int) := by rw [hQ]; exact (Int.natCast_ediv _ _).symm
  obtain ⟨s63, hs63⟩ : ∃ s63 : Int, s63 = if n = true then 1 else 0 := ⟨_, rfl⟩
  rw [← hs63] at f4
  have hsn : (s63 == 1) = n := by rw [hs63]; cases n <;> rfl
  have hsn2 : decide (s63 = 1) = n := by rw [hs63]; cases n <;> rfl
  rw [← hX]
  obtain ⟨ge, ge2⟩ := fb_e eN b1
  clear hX hQ hs63 b3
  by_cases ce : eN = 0
  · obtain ⟨f, hf⟩ : ∃ f, f = fN := ⟨_, rfl⟩
    obtain ⟨x, hx⟩ : ∃ x : Int, x = -1074 := ⟨_, rfl⟩
    have hse := sgep0 m (by rw [← heN]; exact ce)
    rw [← hfN, ← hf, ← hx] at hse
    have HS : Hid (Fb.sgD m = f ∧ Fb.epD m = x) := hse
    have hbf : f < 18446744073709551616 := by rw [hf]; exact Nat.lt_trans b2 (by decide)
    have hbx : x.natAbs ≤ 4096 := by rw [hx]; decide
    have HF : Hid (f < 18446744073709551616 ∧ blen f ≤ 64 ∧ x.natAbs ≤ 1048576) := small64 f x hbf hbx
    clear hse hbf hbx
    have HXX : Hid (x = -1074) := hx
    subst ce
    rw [← hf] at f3
    clear b1 b2 heN hfN hf hx hm
    go_enter Tryz.func38, Tryz.ntmps38
    have hc := rsmall_ f HF.out.1 w0
    go_wp2_with fail
    rw [← hw0]
    refine hc.mono ?_; rintro e w1 ⟨v1, rfl, hO, hk⟩
    have H1 : Hid (Ls w1 v1 (dig f)) := hO.ls
    have K0 : Hid (Kp w0 w1) := hk
    clear hc hO hk hw0
    obtain ⟨gl, hgl⟩ : ∃ gl, gl = w1.heap.size := ⟨_, rfl⟩
    obtain ⟨wl, hwl⟩ : ∃ wl, wl = w1.alloc (.cells #[.int .u32 1] 100) := ⟨_, rfl⟩
    have O1 := own1 w1
    rw [← hwl, ← hgl] at O1
    have kl : Kp w1 wl := by rw [hwl]; exact (Kp.refl _).alloc _
    replace H1 : Hid (Ls wl v1 (dig f)) := H1.out.kp kl
    replace K0 : Hid (Kp w0 wl) := K0.out.trans kl
    have hc := fracX_ n v1 (.slice (some ⟨gl, 0, none⟩) 1 1) (dig f) [1] x wl H1.out O1.ls (Wd_dig f) (wd1 1 (by decide)) (Nat.le_trans (dlen f 2 HF.out.2.1) (by decide)) (by simp) (by decide) HF.out.2.2
    rw [val_dig, show val [1] = 1 from by decide] at hc
    rw [HXX.out] at hc
    clear O1 kl H1
    go_wp2_with fail
    try rw [hsn]
    rw [← hgl, ← hwl]
    refine hc.mono ?_; rintro e w2 ⟨vn, vd, a, b, ng, rfl, hN, hD, hF, hk⟩
    clear hgl hwl hc
    have hsz := K0.out.size
    replace K0 : Hid (Kp w0 w2) := K0.out.trans hk
    have ON : Hid (Own w2 w0.heap.size vn (dig a)) := hN.mono hsz
    have OD : Hid (Own w2 w0.heap.size vd (dig b)) := hD.mono hsz
    clear hN hD hk hsz
    obtain ⟨pN, cN, hvN, _⟩ := ON.out.len
    obtain ⟨NN, hNN⟩ : ∃ NN, NN = (dig (a)).length := ⟨_, rfl⟩
    rw [← hNN] at hvN
    subst hvN
    clear hNN
    obtain ⟨pD, cD, hvD, _⟩ := OD.out.len
    obtain ⟨ND, hND⟩ : ∃ ND, ND = (dig (b)).length := ⟨_, rfl⟩
    rw [← hND] at hvD
    subst hvD
    clear hND
    have hlt : w.heap.size < w0.heap.size := by rw [Hw0.out]; simp
    have k0 := kkeep K0.out (b := w.heap.size) (o := 0) (v := .bool false) (by rw [Hw0.out]; simp [go_sem])
    have z0 : w2.frozen? ⟨w.heap.size, 0, none⟩ = false := by rw [Below.frozen K0.out hlt, Hw0.out]; simp [go_sem]
    have k1 := kkeep K0.out (b := w.heap.size) (o := 1) (v := .slice none 0 0) (by rw [Hw0.out]; simp [go_sem])
    have z1 : w2.frozen? ⟨w.heap.size, 1, none⟩ = false := by rw [Below.frozen K0.out hlt, Hw0.out]; simp [go_sem]
    have k2 := kkeep K0.out (b := w.heap.size) (o := 2) (v := .slice none 0 0) (by rw [Hw0.out]; simp [go_sem])
    have z2 : w2.frozen? ⟨w.heap.size, 2, none⟩ = false := by rw [Below.frozen K0.out hlt, Hw0.out]; simp [go_sem]
    have hk9 : Kp w w0 := by rw [Hw0.out]; exact (Kp.refl w).alloc _
    have hk0 : Kp w w2 := hk9.trans K0.out
    have HZ : Hid (Own (((w2.setCell ⟨w.heap.size, 0, none⟩ (.bool ng)).setCell ⟨w.heap.size, 1, none⟩ (.slice pN NN cN)).setCell ⟨w.heap.size, 2, none⟩ (.slice pD ND cD)) w.heap.size (.slice pN NN cN) (dig a) ∧ Own (((w2.setCell ⟨w.heap.size, 0, none⟩ (.bool ng)).setCell ⟨w.heap.size, 1, none⟩ (.slice pN NN cN)).setCell ⟨w.heap.size, 2, none⟩ (.slice pD ND cD)) w.heap.size (.slice pD ND cD) (dig b) ∧ Kp w (((w2.setCell ⟨w.heap.size, 0, none⟩ (.bool ng)).setCell ⟨w.heap.size, 1, none⟩ (.slice pN NN cN)).setCell ⟨w.heap.size, 2, none⟩ (.slice pD ND cD))) := ⟨((((ON.out.setOther hlt (.bool ng)).setOther hlt (.slice pN NN cN)).setOther hlt (.slice pD ND cD))).mono (Nat.le_of_lt hlt), ((((OD.out.setOther hlt (.bool ng)).setOther hlt (.slice pN NN cN)).setOther hlt (.slice pD ND cD))).mono (Nat.le_of_lt hlt), (((hk0.setCell (Nat.le_refl _) (.bool ng)).setCell (Nat.le_refl _) (.slice pN NN cN)).setCell (Nat.le_refl _) (.slice pD ND cD))⟩
    have HFF : Hid (FracX (Fb.sgD m) 1 (Fb.epD m) a b ∧ (Fb.sgD m ≠ 0 → ng = n)) := by rw [HS.out.1, HS.out.2, HXX.out]; exact hF
    clear hk0 hlt hk9 hF
    go_wp2
    exact bodyPost_ret (v := .agg #[.bool ng, .slice pN NN cN, .slice pD ND cD]) (by simp [results, Tryz.results38, go_sem] <;> simp [go_sem, *]) rfl ⟨_, _, a, b, ng, rfl, HZ.out.1, HZ.out.2.1, HFF.out, HZ.out.2.2⟩
  · obtain ⟨f, hf⟩ : ∃ f, f = fN + 4503599627370496 := ⟨_, rfl⟩
    obtain ⟨e1, he1⟩ : ∃ e1 : Int, e1 = (eN : Int) - 1 := ⟨_, rfl⟩
    obtain ⟨x, hx⟩ : ∃ x : Int, x = e1 - 1074 := ⟨_, rfl⟩
    have hse := sgep1 m hm (by rw [← heN]; exact ce)
    rw [← hfN, ← hf, ← heN, ← he1, ← hx] at hse
    have HS : Hid (Fb.sgD m = f ∧ Fb.epD m = x) := hse
    obtain ⟨t1, g3, g4', g5', hbf, hbx⟩ := fb_nums eN fN f e1 x b1 b2 ce hf he1 hx
    have b9 : eN ≤ 2047 := Nat.le_of_lt b1
    have HXX : Hid ((eN : Int) - 1 - 1074 = x) := by show _ = _; clear f1 f2 f3 f4; omega
    clear g4' g5' ge ge2
    have HF : Hid (f < 18446744073709551616 ∧ blen f ≤ 64 ∧ x.natAbs ≤ 1048576) := small64 f x hbf hbx
    clear hse hbf hbx
    clear b1 b2 heN hfN hf hx hm ce he1
    go_enter Tryz.func38, Tryz.ntmps38
    have hc := rsmall_ f HF.out.1 w0
    go_wp2_with fail
    rw [← hw0]
    refine hc.mono ?_; rintro e w1 ⟨v1, rfl, hO, hk⟩
    have H1 : Hid (Ls w1 v1 (dig f)) := hO.ls
    have K0 : Hid (Kp w0 w1) := hk
    clear hc hO hk hw0
    obtain ⟨gl, hgl⟩ : ∃ gl, gl = w1.heap.size := ⟨_, rfl⟩
    obtain ⟨wl, hwl⟩ : ∃ wl, wl = w1.alloc (.cells #[.int .u32 1] 100) := ⟨_, rfl⟩
    have O1 := own1 w1
    rw [← hwl, ← hgl] at O1
    have kl : Kp w1 wl := by rw [hwl]; exact (Kp.refl _).alloc _
    replace H1 : Hid (Ls wl v1 (dig f)) := H1.out.kp kl
    replace K0 : Hid (Kp w0 wl) := K0.out.trans kl
    have hc := fracX_ n v1 (.slice (some ⟨gl, 0, none⟩) 1 1) (dig f) [1] x wl H1.out O1.ls (Wd_dig f) (wd1 1 (by decide)) (Nat.le_trans (dlen f 2 HF.out.2.1) (by decide)) (by simp) (by decide) HF.out.2.2
    rw [val_dig, show val [1] = 1 from by decide] at hc
    skip
    clear O1 kl H1
    go_wp2_with fail
    try rw [hsn]
    rw [HXX.out]
    rw [← hgl, ← hwl]
    refine hc.mono ?_; rintro e w2 ⟨vn, vd, a, b, ng, rfl, hN, hD, hF, hk⟩
    clear hgl hwl hc
    have hsz := K0.out.size
    replace K0 : Hid (Kp w0 w2) := K0.out.trans hk
    have ON : Hid (Own w2 w0.heap.size vn (dig a)) := hN.mono hsz
    have OD : Hid (Own w2 w0.heap.size vd (dig b)) := hD.mono hsz
    clear hN hD hk hsz
    obtain ⟨pN, cN, hvN, _⟩ := ON.out.len
    obtain ⟨NN, hNN⟩ : ∃ NN, NN = (dig (a)).length := ⟨_, rfl⟩
    rw [← hNN] at hvN
    subst hvN
    clear hNN
    obtain ⟨pD, cD, hvD, _⟩ := OD.out.len
    obtain ⟨ND, hND⟩ : ∃ ND, ND = (dig (b)).length := ⟨_, rfl⟩
    rw [← hND] at hvD
    subst hvD
    clear hND
    have hlt : w.heap.size < w0.heap.size := by rw [Hw0.out]; simp
    have k0 := kkeep K0.out (b := w.heap.size) (o := 0) (v := .bool false) (by rw [Hw0.out]; simp [go_sem])
    have z0 : w2.frozen? ⟨w.heap.size, 0, none⟩ = false := by rw [Below.frozen K0.out hlt, Hw0.out]; simp [go_sem]
    have k1 := kkeep K0.out (b := w.heap.size) (o := 1) (v := .slice none 0 0) (by rw [Hw0.out]; simp [go_sem])
    have z1 : w2.frozen? ⟨w.heap.size, 1, none⟩ = false := by rw [Below.frozen K0.out hlt, Hw0.out]; simp [go_sem]
    have k2 := kkeep K0.out (b := w.heap.size) (o := 2) (v := .slice none 0 0) (by rw [Hw0.out]; simp [go_sem])
    have z2 : w2.frozen? ⟨w.heap.size, 2, none⟩ = false := by rw [Below.frozen K0.out hlt, Hw0.out]; simp [go_sem]
    have hk9 : Kp w w0 := by rw [Hw0.out]; exact (Kp.refl w).alloc _
    have hk0 : Kp w w2 := hk9.trans K0.out
    have HZ : Hid (Own (((w2.setCell ⟨w.heap.size, 0, none⟩ (.bool ng)).setCell ⟨w.heap.size, 1, none⟩ (.slice pN NN cN)).setCell ⟨w.heap.size, 2, none⟩ (.slice pD ND cD)) w.heap.size (.slice pN NN cN) (dig a) ∧ Own (((w2.setCell ⟨w.heap.size, 0, none⟩ (.bool ng)).setCell ⟨w.heap.size, 1, none⟩ (.slice pN NN cN)).setCell ⟨w.heap.size, 2, none⟩ (.slice pD ND cD)) w.heap.size (.slice pD ND cD) (dig b) ∧ Kp w (((w2.setCell ⟨w.heap.size, 0, none⟩ (.bool ng)).setCell ⟨w.heap.size, 1, none⟩ (.slice pN NN cN)).setCell ⟨w.heap.size, 2, none⟩ (.slice pD ND cD))) := ⟨((((ON.out.setOther hlt (.bool ng)).setOther hlt (.slice pN NN cN)).setOther hlt (.slice pD ND cD))).mono (Nat.le_of_lt hlt), ((((OD.out.setOther hlt (.bool ng)).setOther hlt (.slice pN NN cN)).setOther hlt (.slice pD ND cD))).mono (Nat.le_of_lt hlt), (((hk0.setCell (Nat.le_refl _) (.bool ng)).setCell (Nat.le_refl _) (.slice pN NN cN)).setCell (Nat.le_refl _) (.slice pD ND cD))⟩
    have HFF : Hid (FracX (Fb.sgD m) 1 (Fb.epD m) a b ∧ (Fb.sgD m ≠ 0 → ng = n)) := by rw [HS.out.1, HS.out.2]; exact hF
    clear hk0 hlt hk9 hF
    go_wp2
    exact bodyPost_ret (v := .agg #[.bool ng, .slice pN NN cN, .slice pD ND cD]) (by simp [results, Tryz.results38, go_sem] <;> simp [go_sem, *]) rfl ⟨_, _, a, b, ng, rfl, HZ.out.1, HZ.out.2.1, HFF.out, HZ.out.2.2⟩
end Go.Proofs.YteedfmghgkmofaaGreatDoor
namespace Go.Proofs.YteedfmghgkmofaaGreatDoor
open Go.RowKit
theorem odd_one (o t k : Nat) (ho : o % 2 = 1) (h : 2 ^ t = o * 2 ^ k) : o = 1 ∧ k = t := by
  rcases Nat.lt_or_ge t k with c | c
  · have e : 2 ^ k = 2 ^ t * 2 ^ (k - t) := by rw [← Nat.pow_add]; congr 1; omega
    rw [e, ← Nat.mul_assoc, Nat.mul_comm o, Nat.mul_assoc] at h
    have hp := Nat.two_pow_pos t
    have h2 : o * 2 ^ (k - t) = 1 := by
      have : 2 ^ t * (o * 2 ^ (k - t)) = 2 ^ t * 1 := by rw [← h, Nat.mul_one]
      exact Nat.eq_of_mul_eq_mul_left hp this
    have h3 := Nat.eq_one_of_mul_eq_one_left h2
    have : 2 ^ 1 ≤ 2 ^ (k - t) := Nat.pow_le_pow_right (by decide) (by omega)
    omega
  · have e : 2 ^ t = 2 ^ (t - k) * 2 ^ k := by rw [← Nat.pow_add]; congr 1; omega
    rw [e] at h
    have h2 := Nat.eq_of_mul_eq_mul_right (Nat.two_pow_pos k) h
    cases hd : t - k with
    | zero => rw [hd] at h2; simp at h2; omega
    | succ u => rw [hd, Nat.pow_succ] at h2; omega
theorem dy_frac (X t E U a' b' : Nat) (h : FracX X (2 ^ t) 0 a' b') (hU : X * 2 ^ E = U * 2 ^ t) : ∃ j, b' = 2 ^ j ∧ Dv a' j E U := by
  by_cases c : X = 0
  · obtain ⟨h1, h2⟩ := h.2.1 c
    refine ⟨0, by rw [h2], Nat.zero_le _, Or.inr rfl, ?_⟩
    rw [c, Nat.zero_mul] at hU
    rcases Nat.mul_eq_zero.1 hU.symm with z | z
    · rw [h1, z, Nat.zero_mul]
    · have := Nat.two_pow_pos t; omega
  · obtain ⟨oa, ob, ka, kb, x, y, g1, g2, g3, g4, g5, g6, g7, g8⟩ := h.2.2 c
    obtain ⟨r1, r2⟩ := odd_one ob t kb g2 g4
    subst r1 r2
    rw [Nat.one_mul] at g6
    have hp := Nat.two_pow_pos kb
    rw [g3] at hU
    refine ⟨y, g6, ?_⟩
    rcases g7 with z | z
    · subst z
      rw [Nat.pow_zero, Nat.mul_one] at g5
      have e : kb = y + ka := by omega
      rw [e, Nat.pow_add, Nat.mul_right_comm, ← Nat.mul_assoc] at hU
      have hU := Nat.eq_of_mul_eq_mul_right (Nat.two_pow_pos ka) hU
      have hy : y ≤ E := by
        apply Classical.byContradiction
        intro n
        have e2 : 2 ^ y = 2 ^ (y - E) * 2 ^ E := by rw [← Nat.pow_add]; congr 1; omega
        rw [e2, ← Nat.mul_assoc] at hU
        have hU := Nat.eq_of_mul_eq_mul_right (Nat.two_pow_pos E) hU
        have e3 : 2 ^ (y - E) = 2 * 2 ^ (y - E - 1) := by rw [← Nat.pow_succ']; congr 1; omega
        rw [e3, ← Nat.mul_assoc, Nat.mul_comm U 2, Nat.mul_assoc] at hU
        omega
      refine ⟨hy, Or.inl (by rw [g5]; exact g1), ?_⟩
      rw [g5]
      have e4 : 2 ^ E = 2 ^ (E - y) * 2 ^ y := by rw [← Nat.pow_add]; congr 1; omega
      rw [e4, ← Nat.mul_assoc] at hU
      exact Nat.eq_of_mul_eq_mul_right (Nat.two_pow_pos y) hU
    · subst z
      have e : ka = x + kb := by omega
      rw [e, Nat.pow_add, ← Nat.mul_assoc, Nat.mul_right_comm] at hU
      have hU := Nat.eq_of_mul_eq_mul_right hp hU
      exact ⟨Nat.zero_le _, Or.inr rfl, by rw [g5, Nat.sub_zero]; exact hU⟩
theorem len_le (n k : Nat) (h : n < 2 ^ (32 * k)) : len32 n ≤ k := by
  apply Classical.byContradiction
  intro c
  have := len32_lt n k (by omega)
  rw [show (4294967296 : Nat) = 2 ^ 32 from rfl, ← Nat.pow_mul] at this
  omega
end Go.Proofs.YteedfmghgkmofaaGreatDoor
namespace Go.Proofs.YteedfmghgkmofaaGreatDoor
open Go.RowKit
theorem dy_sum (a1 a2 j1 j2 E U1 U2 : Nat) (h1 : Dv a1 j1 E U1) (h2 : Dv a2 j2 E U2) : (a1 * 2 ^ j2) * 2 ^ E = U1 * 2 ^ (j1 + j2) ∧ (a2 * 2 ^ j1) * 2 ^ E = U2 * 2 ^ (j1 + j2) := by
  obtain ⟨x1, -, x3⟩ := h1
  obtain ⟨y1, -, y3⟩ := h2
  rw [← x3, ← y3]
  constructor
  · rw [Nat.mul_assoc, Nat.mul_assoc, ← Nat.pow_add, ← Nat.pow_add]; congr 2; omega
  · rw [Nat.mul_assoc, Nat.mul_assoc, ← Nat.pow_add, ← Nat.pow_add]; congr 2; omega
theorem pow_mul2 (x B j C : Nat) (h : x < 2 ^ B) (hj : j ≤ C) : x * 2 ^ j < 2 ^ (B + C) := by
  rw [Nat.pow_add]
  exact Nat.lt_of_lt_of_le ((Nat.mul_lt_mul_right (Nat.two_pow_pos j)).2 h) (Nat.mul_le_mul_left _ (Nat.pow_le_pow_right (by decide) hj))
theorem len_b (n k B : Nat) (h : n < 2 ^ B) (hB : B ≤ 32 * k) : len32 n ≤ k := len_le n k (Nat.lt_of_lt_of_le h (Nat.pow_le_pow_right (by decide) hB))
theorem sgn_of (V : Int) (s : Bool) (h : V ≠ 0 → s = decide (V < 0)) : V = if s then -((V.natAbs : Nat) : Int) else ((V.natAbs : Nat) : Int) := by
  by_cases c : V = 0
  · rw [c]; cases s <;> rfl
  · rw [h c]
    by_cases d : V < 0
    · rw [decide_eq_true d]; simp; omega
    · rw [decide_eq_false d]; simp; omega
theorem dyadd_ (s1 : Bool) (p1 : Option Addr) (l1 c1 : Nat) (q1 : Option Addr) (k1 d1 : Nat) (s2 : Bool) (p2 : Option Addr) (l2 c2 : Nat) (q2 : Option Addr) (k2 d2 : Nat) (V1 V2 : Int) (E B : Nat) (hB : B ≤ 60000) (hE : E ≤ 60000) (hV1 : V1.natAbs < 2 ^ B) (hV2 : V2.natAbs < 2 ^ B) (b1 b2 : Nat) (w : World) (h1 : Dy b1 w s1 p1 l1 c1 q1 k1 d1 V1 E) (h2 : Dy b2 w s2 p2 l2 c2 q2 k2 d2 V2 E) : Calls Tryz.prog 40 #[.agg #[.bool s1, .slice p1 l1 c1, .slice q1 k1 d1], .agg #[.bool s2, .slice p2 l2 c2, .slice q2 k2 d2]] w fun e w' => ∃ (s3 : Bool) (p3 : Option Addr) (l3 c3 : Nat) (q3 : Option Addr) (k3 d3 : Nat), e = .returned (.agg #[.bool s3, .slice p3 l3 c3, .slice q3 k3 d3]) ∧ Dy w.heap.size w' s3 p3 l3 c3 q3 k3 d3 (V1 + V2) E ∧ Kp w w' := by
  obtain ⟨a1, j1, o1, o2, f1, g1⟩ := h1
  obtain ⟨a2, j2, o3, o4, f2, g2⟩ := h2
  obtain ⟨P1, C1, e1, r1, t1⟩ := o1.arr
  obtain ⟨P2, C2, e2, r2, t2⟩ := o2.arr
  obtain ⟨P3, C3, e3, r3, t3⟩ := o3.arr
  obtain ⟨P4, C4, e4, r4, t4⟩ := o4.arr
  injection e1 with x1 x2 x3; subst x1 x2 x3
  injection e2 with x1 x2 x3; subst x1 x2 x3
  injection e3 with x1 x2 x3; subst x1 x2 x3
  injection e4 with x1 x2 x3; subst x1 x2 x3
  obtain ⟨m1, m2⟩ := dy_sum a1 a2 j1 j2 E _ _ f1 f2
  have A1 := f1.lt B hV1
  have A2 := f2.lt B hV2
  have J1 := f1.1
  have J2 := f2.1
  have L1 : len32 a1 ≤ 4000 := len_b _ _ B A1 (by omega)
  have L2 : len32 a2 ≤ 4000 := len_b _ _ B A2 (by omega)
  have L3 : len32 (2 ^ j1) ≤ 4000 := len_b _ _ (j1 + 1) (Nat.pow_lt_pow_right (by decide) (by omega)) (by omega)
  have L4 : len32 (2 ^ j2) ≤ 4000 := len_b _ _ (j2 + 1) (Nat.pow_lt_pow_right (by decide) (by omega)) (by omega)
  have X1 := pow_mul2 a1 B j2 60000 A1 (by omega)
  have X2 := pow_mul2 a2 B j1 60000 A2 (by omega)
  have X3 : len32 (a1 * 2 ^ j2) ≤ 16000 := len_b _ _ (B + 60000) X1 (by omega)
  have X4 : len32 (a2 * 2 ^ j1) ≤ 16000 := len_b _ _ (B + 60000) X2 (by omega)
  have X5 : len32 (2 ^ j1 * 2 ^ j2) ≤ 16000 := len_b _ _ (j1 + j2 + 1) (by rw [← Nat.pow_add]; exact Nat.pow_lt_pow_right (by decide) (by omega)) (by omega)
  have X6 : len32 (a1 * 2 ^ j2 + a2 * 2 ^ j1) ≤ 16000 := len_b _ _ (B + 60000 + 1) (by rw [Nat.pow_succ]; generalize 2 ^ (B + 60000) = Q at *; omega) (by omega)
  have Z1 : (2 : Nat) ^ j1 ≠ 0 := Nat.ne_of_gt (Nat.two_pow_pos _)
  have Z2 : (2 : Nat) ^ j2 ≠ 0 := Nat.ne_of_gt (Nat.two_pow_pos _)
  have D9 : (2 : Nat) ^ j1 * 2 ^ j2 = 2 ^ (j1 + j2) := (Nat.pow_add 2 j1 j2).symm
  have fin : ∀ (X U : Nat) (sg : Bool) (V : Int), X * 2 ^ E = U * 2 ^ (j1 + j2) → V.natAbs = U → (V ≠ 0 → sg = decide (V < 0)) → (Calls Tryz.prog 40 #[.agg #[.bool s1, .slice p1 (dig a1).length c1, .slice q1 (dig (2 ^ j1)).length d1], .agg #[.bool s2, .slice p2 (dig a2).length c2, .slice q2 (dig (2 ^ j2)).length d2]] w fun e w' => ∃ (vn vd : Value) (a' b' : Nat) (ng : Bool), e = .returned (.agg #[.bool ng, vn, vd]) ∧ Own w' w.heap.size vn (dig a') ∧ Own w' w.heap.size vd (dig b') ∧ (FracX X (2 ^ j1 * 2 ^ j2) 0 a' b' ∧ (X ≠ 0 → ng = sg)) ∧ Kp w w') → Calls Tryz.prog 40 #[.agg #[.bool s1, .slice p1 (dig a1).length c1, .slice q1 (dig (2 ^ j1)).length d1], .agg #[.bool s2, .slice p2 (dig a2).length c2, .slice q2 (dig (2 ^ j2)).length d2]] w fun e w' => ∃ (s3 : Bool) (p3 : Option Addr) (l3 c3 : Nat) (q3 : Option Addr) (k3 d3 : Nat), e = .returned (.agg #[.bool s3, .slice p3 l3 c3, .slice q3 k3 d3]) ∧ Dy w.heap.size w' s3 p3 l3 c3 q3 k3 d3 (V) E ∧ Kp w w' := by
    intro X U sg V hX hU hs hc
    refine hc.mono ?_
    rintro e w' ⟨vn, vd, a', b', ng, rfl, u1, u2, ⟨u3, u4⟩, g⟩
    rw [D9] at u3
    obtain ⟨j, rfl, u5⟩ := dy_frac X (j1 + j2) E U a' b' u3 hX
    obtain ⟨p3, c3, rfl, -, -⟩ := u1.arr
    obtain ⟨q3, d3, rfl, -, -⟩ := u2.arr
    refine ⟨ng, p3, _, c3, q3, _, d3, rfl, ⟨a', j, u1, u2, by rw [hU]; exact u5, fun h => ?_⟩, g⟩
    rw [u4 (fun z => ?_)]
    · exact hs h
    · rw [z, Nat.zero_mul] at hX
      rcases Nat.mul_eq_zero.1 hX.symm with q | q
      · omega
      · have := Nat.two_pow_pos (j1 + j2); omega
  have hp : 0 < 2 ^ (j1 + j2) := Nat.two_pow_pos _
  have hpE : 0 < 2 ^ E := Nat.two_pow_pos _
  have hle : (a2 * 2 ^ j1 ≤ a1 * 2 ^ j2 ↔ V2.natAbs ≤ V1.natAbs) := by
    rw [← Nat.mul_le_mul_right_iff hpE, m1, m2, Nat.mul_le_mul_right_iff hp]
  have n1 := sgn_of V1 s1 g1
  have n2 := sgn_of V2 s2 g2
  by_cases c : s1 = s2
  · refine fin (a1 * 2 ^ j2 + a2 * 2 ^ j1) (V1.natAbs + V2.natAbs) s1 (V1 + V2) (by rw [Nat.add_mul, Nat.add_mul, m1, m2]) ?_ ?_ (raddEqX_ s1 s2 a1 (2 ^ j1) a2 (2 ^ j2) p1 q1 p2 q2 c1 d1 c2 d2 w r1 t1 r2 t2 r3 t3 r4 t4 L1 L3 L2 L4 Z1 Z2 _ _ _ rfl rfl rfl X3 X4 X5 X6 c)
    · rw [← c] at n2; clear m1 m2 hle fin; cases s1 <;> simp at n1 n2 <;> omega
    · intro h; rw [← c] at n2; clear m1 m2 hle fin; cases s1 <;> simp at n1 n2 ⊢ <;> omega
  · by_cases cl : a2 * 2 ^ j1 ≤ a1 * 2 ^ j2
    · have cl2 := hle.1 cl
      refine fin (a1 * 2 ^ j2 - a2 * 2 ^ j1) (V1.natAbs - V2.natAbs) s1 (V1 + V2) (by rw [Nat.sub_mul, Nat.sub_mul, m1, m2]) ?_ ?_ (raddGeX_ s1 s2 a1 (2 ^ j1) a2 (2 ^ j2) p1 q1 p2 q2 c1 d1 c2 d2 w r1 t1 r2 t2 r3 t3 r4 t4 L1 L3 L2 L4 Z1 Z2 _ _ _ rfl rfl rfl X3 X4 X5 X6 c cl)
      · clear m1 m2 hle fin; cases s1 <;> cases s2 <;> simp at n1 n2 c <;> omega
      · intro h; clear m1 m2 hle fin; cases s1 <;> cases s2 <;> simp at n1 n2 c ⊢ <;> omega
    · have cl2 := mt hle.2 cl
      refine fin (a2 * 2 ^ j1 - a1 * 2 ^ j2) (V2.natAbs - V1.natAbs) s2 (V1 + V2) (by rw [Nat.sub_mul, Nat.sub_mul, m1, m2]) ?_ ?_ (raddLtX_ s1 s2 a1 (2 ^ j1) a2 (2 ^ j2) p1 q1 p2 q2 c1 d1 c2 d2 w r1 t1 r2 t2 r3 t3 r4 t4 L1 L3 L2 L4 Z1 Z2 _ _ _ rfl rfl rfl X3 X4 X5 X6 c (by omega))
      · clear m1 m2 hle fin; cases s1 <;> cases s2 <;> simp at n1 n2 c <;> omega
      · intro h; clear m1 m2 hle fin; cases s1 <;> cases s2 <;> simp at n1 n2 c ⊢ <;> omega
end Go.Proofs.YteedfmghgkmofaaGreatDoor
namespace Go.Proofs.YteedfmghgkmofaaGreatDoor
open Go.RowKit
theorem dyfrom_ (n : Bool) (m K : Nat) (hK : K = 1074) (hm : m < 9218868437227405312) (w : World) : Calls Tryz.prog 38 #[.int .u64 ((Fq.wD n m : Nat) : Int)] w fun e w' => ∃ (s3 : Bool) (p3 : Option Addr) (l3 c3 : Nat) (q3 : Option Addr) (k3 d3 : Nat), e = .returned (.agg #[.bool s3, .slice p3 l3 c3, .slice q3 k3 d3]) ∧ Dy w.heap.size w' s3 p3 l3 c3 q3 k3 d3 (Iv n m) (K) ∧ Kp w w' := by
  have h := fromBitsX_ n m hm w
  refine Calls.mono (show Calls Tryz.prog 38 #[.int .u64 ((Fq.wD n m : Nat) : Int)] w _ from h) ?_
  rintro e w' ⟨vn, vd, a, b, ng, rfl, u1, u2, ⟨u3, u4⟩, g⟩
  obtain ⟨v1, v2, v3, v4, v5⟩ := Fq.vlsgD m hm
  have v1 : Fq.sgD m * 2 ^ (Fq.epD m + 1074).toNat = Fq.vV Ieee.double m := v1
  have u3 : FracX (Fq.sgD m) 1 (Fq.epD m) a b := u3
  have u4 : Fq.sgD m ≠ 0 → ng = n := u4
  obtain ⟨p3, c3, rfl, -, -⟩ := u1.arr
  obtain ⟨q3, d3, rfl, -, -⟩ := u2.arr
  have ab : (Iv n m).natAbs = Fq.vV Ieee.double m := by unfold Iv; cases n <;> simp
  by_cases z : Fq.sgD m = 0
  · obtain ⟨z1, z2⟩ := u3.2.1 z
    have z3 : Fq.vV Ieee.double m = 0 := by rw [← v1, z, Nat.zero_mul]
    have z4 : Iv n m = 0 := by omega
    subst z2
    refine ⟨ng, p3, _, c3, q3, _, d3, rfl, ⟨a, 0, u1, u2, ⟨Nat.zero_le _, Or.inr rfl, ?_⟩, fun h => absurd z4 h⟩, g⟩
    rw [z1, Nat.zero_mul, ab, z3]
  · obtain ⟨oa, ob, ka, kb, x, y, g1, g2, g3, g4, g5, g6, g7, g8⟩ := u3.2.2 z
    obtain ⟨r1, r2⟩ := odd_one ob 0 kb g2 g4
    subst r1 r2
    rw [Nat.one_mul] at g6
    subst g6
    have hs : Iv n m ≠ 0 → ng = decide (Iv n m < 0) := fun h => by
      rw [u4 z]
      unfold Iv at h ⊢
      cases n
      · simp
      · simp at h ⊢; omega
    rw [g3] at v1
    refine ⟨ng, p3, _, c3, q3, _, d3, rfl, ⟨a, y, u1, u2, ?_, hs⟩, g⟩
    rw [ab, ← v1, g5]
    rcases g7 with q | q
    · subst q
      refine ⟨by omega, Or.inl (by rw [Nat.pow_zero, Nat.mul_one]; exact g1), ?_⟩
      rw [Nat.pow_zero, Nat.mul_one, Nat.mul_assoc, ← Nat.pow_add]; congr 2; omega
    · subst q
      refine ⟨Nat.zero_le _, Or.inr rfl, ?_⟩
      rw [Nat.mul_assoc, Nat.mul_assoc, ← Nat.pow_add, ← Nat.pow_add]; congr 2; omega
theorem dymul_ (s1 : Bool) (p1 : Option Addr) (l1 c1 : Nat) (q1 : Option Addr) (k1 d1 : Nat) (s2 : Bool) (p2 : Option Addr) (l2 c2 : Nat) (q2 : Option Addr) (k2 d2 : Nat) (V1 V2 : Int) (E B : Nat) (hB : B ≤ 30000) (hE : E ≤ 30000) (hV1 : V1.natAbs < 2 ^ B) (hV2 : V2.natAbs < 2 ^ B) (b1 b2 : Nat) (w : World) (h1 : Dy b1 w s1 p1 l1 c1 q1 k1 d1 V1 E) (h2 : Dy b2 w s2 p2 l2 c2 q2 k2 d2 V2 E) : Calls Tryz.prog 39 #[.agg #[.bool s1, .slice p1 l1 c1, .slice q1 k1 d1], .agg #[.bool s2, .slice p2 l2 c2, .slice q2 k2 d2]] w fun e w' => ∃ (s3 : Bool) (p3 : Option Addr) (l3 c3 : Nat) (q3 : Option Addr) (k3 d3 : Nat), e = .returned (.agg #[.bool s3, .slice p3 l3 c3, .slice q3 k3 d3]) ∧ Dy w.heap.size w' s3 p3 l3 c3 q3 k3 d3 (V1 * V2) (E + E) ∧ Kp w w' := by
  obtain ⟨a1, j1, o1, o2, f1, g1⟩ := h1
  obtain ⟨a2, j2, o3, o4, f2, g2⟩ := h2
  obtain ⟨P1, C1, e1, r1, t1⟩ := o1.arr
  obtain ⟨P2, C2, e2, r2, t2⟩ := o2.arr
  obtain ⟨P3, C3, e3, r3, t3⟩ := o3.arr
  obtain ⟨P4, C4, e4, r4, t4⟩ := o4.arr
  injection e1 with x1 x2 x3; subst x1 x2 x3
  injection e2 with x1 x2 x3; subst x1 x2 x3
  injection e3 with x1 x2 x3; subst x1 x2 x3
  injection e4 with x1 x2 x3; subst x1 x2 x3
  have A1 := f1.lt B hV1
  have A2 := f2.lt B hV2
  have J1 := f1.1
  have J2 := f2.1
  have L1 : len32 a1 ≤ 4000 := len_b _ _ B A1 (by omega)
  have L2 : len32 a2 ≤ 4000 := len_b _ _ B A2 (by omega)
  have L3 : len32 (2 ^ j1) ≤ 4000 := len_b _ _ (j1 + 1) (Nat.pow_lt_pow_right (by decide) (by omega)) (by omega)
  have L4 : len32 (2 ^ j2) ≤ 4000 := len_b _ _ (j2 + 1) (Nat.pow_lt_pow_right (by decide) (by omega)) (by omega)
  have X3 : len32 (a1 * a2) ≤ 16000 := len_b _ _ (B + B) (by rw [Nat.pow_add]; exact Nat.mul_lt_mul'' A1 A2) (by omega)
  have X5 : len32 (2 ^ j1 * 2 ^ j2) ≤ 16000 := len_b _ _ (j1 + j2 + 1) (by rw [← Nat.pow_add]; exact Nat.pow_lt_pow_right (by decide) (by omega)) (by omega)
  have Z1 : (2 : Nat) ^ j1 ≠ 0 := Nat.ne_of_gt (Nat.two_pow_pos _)
  have Z2 : (2 : Nat) ^ j2 ≠ 0 := Nat.ne_of_gt (Nat.two_pow_pos _)
  have D9 : (2 : Nat) ^ j1 * 2 ^ j2 = 2 ^ (j1 + j2) := (Nat.pow_add 2 j1 j2).symm
  refine (rmulX_ s1 s2 a1 (2 ^ j1) a2 (2 ^ j2) p1 q1 p2 q2 c1 d1 c2 d2 w r1 t1 r2 t2 r3 t3 r4 t4 L1 L3 L2 L4 Z1 Z2 _ _ rfl rfl X3 X5).mono ?_
  rintro e w' ⟨vn, vd, a', b', ng, rfl, u1, u2, ⟨u3, u4⟩, g⟩
  rw [D9] at u3
  have hX : a1 * a2 * 2 ^ (E + E) = (V1 * V2).natAbs * 2 ^ (j1 + j2) := by
    rw [Int.natAbs_mul, ← f1.2.2, ← f2.2.2, show a1 * 2 ^ (E - j1) * (a2 * 2 ^ (E - j2)) = a1 * a2 * (2 ^ (E - j1) * 2 ^ (E - j2)) from Nat.mul_mul_mul_comm _ _ _ _, ← Nat.pow_add, Nat.mul_assoc (a1 * a2) (2 ^ (E - j1 + (E - j2))), ← Nat.pow_add]; congr 2; omega
  obtain ⟨j, rfl, u5⟩ := dy_frac _ (j1 + j2) (E + E) _ a' b' u3 hX
  obtain ⟨p3, c3, rfl, -, -⟩ := u1.arr
  obtain ⟨q3, d3, rfl, -, -⟩ := u2.arr
  refine ⟨ng, p3, _, c3, q3, _, d3, rfl, ⟨a', j, u1, u2, u5, fun h => ?_⟩, g⟩
  have hv1 : V1 ≠ 0 := fun z => h (by rw [z, Int.zero_mul])
  have hv2 : V2 ≠ 0 := fun z => h (by rw [z, Int.mul_zero])
  rw [u4 (fun z => ?_), g1 hv1, g2 hv2]
  · by_cases y1 : V1 < 0
    · by_cases y2 : V2 < 0
      · have := Int.mul_pos_of_neg_of_neg y1 y2
        rw [decide_eq_true y1, decide_eq_true y2, decide_eq_false (by omega)]; rfl
      · have := Int.mul_neg_of_neg_of_pos y1 (show 0 < V2 by omega)
        rw [decide_eq_true y1, decide_eq_false y2, decide_eq_true this]; rfl
    · by_cases y2 : V2 < 0
      · have := Int.mul_neg_of_pos_of_neg (show 0 < V1 by omega) y2
        rw [decide_eq_false y1, decide_eq_true y2, decide_eq_true this]; rfl
      · have := Int.mul_pos (show 0 < V1 by omega) (show 0 < V2 by omega)
        rw [decide_eq_false y1, decide_eq_false y2, decide_eq_false (by omega)]; rfl
  · rcases Nat.mul_eq_zero.1 z with q | q
    · have := f1.2.2; rw [q, Nat.zero_mul] at this; omega
    · have := f2.2.2; rw [q, Nat.zero_mul] at this; omega
end Go.Proofs.YteedfmghgkmofaaGreatDoor
namespace Go.Proofs.YteedfmghgkmofaaGreatDoor
open Go.RowKit
set_option maxRecDepth 20000 in
set_option maxHeartbeats 400000 in
theorem fin4_ (X : Nat) (hX : X < 18446744073709551616) (w : World) : Calls Tryz.prog 63 #[.int .u64 (X : Int)] w fun e w' => e = .returned (.bool (decide (X % 9223372036854775808 < 9218868437227405312))) ∧ w' = w := by
  have f1 : (X : Int) / 4503599627370496 = ((X / 4503599627370496 : Nat) : Int) := by omega
  have f2 : bits .and .u64 ((X / 4503599627370496 : Nat) : Int) 2047 = ((X / 4503599627370496 % 2048 : Nat) : Int) := by
    have h := bits_and_u64_nat (X / 4503599627370496) 2047 (by omega) (by decide)
    have e : (X / 4503599627370496) &&& 2047 = X / 4503599627370496 % 2048 := Nat.and_two_pow_sub_one_eq_mod _ 11
    rw [e] at h
    exact h
  have f3 : ((((X / 4503599627370496 % 2048 : Nat) : Int)) != 2047) = decide (X % 9223372036854775808 < 9218868437227405312) := by
    rw [Bool.eq_iff_iff, bne_iff_ne, decide_eq_true_eq]; omega
  generalize ((X / 4503599627370496 % 2048 : Nat) : Int) = Y at *
  generalize decide (X % 9223372036854775808 < 9218868437227405312) = V at *
  generalize ((X / 4503599627370496 : Nat) : Int) = Z at *
  clear hX
  go_enter Tryz.func63, Tryz.ntmps63
  go_wp2
  exact bodyPost_ret (v := .bool V) (by simp [results, Tryz.results63, go_sem] <;> simpa using f3) rfl ⟨rfl, rfl⟩
end Go.Proofs.YteedfmghgkmofaaGreatDoor
namespace Go.Proofs.YteedfmghgkmofaaGreatDoor
open Go.RowKit
set_option linter.unusedVariables false
theorem Own.blk {w : World} {base : Nat} {p : Option Addr} {l c : Nat} {xs : List Int} (h : Own w base (.slice p l c) xs) : ∀ a, p = some a → base ≤ a.block ∧ a.block < w.heap.size := by
  intro a ha
  rcases h.2 with ⟨h1, -⟩ | ⟨g, cap, cur, h1, h2, h3, -⟩
  · simp at h1; rw [h1.1] at ha; cases ha
  · simp at h1
    rw [h1.1] at ha
    obtain rfl := Option.some.inj ha
    refine ⟨h2, ?_⟩
    exact lt_of_block h3
theorem Dy.nbNew {base : Nat} {w : World} {s1 : Bool} {p1 : Option Addr} {l1 c1 : Nat} {q1 : Option Addr} {k1 d1 : Nat} {V : Int} {E : Nat} (h : Dy base w s1 p1 l1 c1 q1 k1 d1 V E) {b : Nat} (hb : w.heap.size ≤ b) : NB p1 q1 b := by
  obtain ⟨x, y, h1, h2, -⟩ := h
  exact ⟨fun a ha => by have := (h1.blk a ha).2; omega, fun a ha => by have := (h2.blk a ha).2; omega⟩
theorem Dy.nbLow {base : Nat} {w : World} {s1 : Bool} {p1 : Option Addr} {l1 c1 : Nat} {q1 : Option Addr} {k1 d1 : Nat} {V : Int} {E : Nat} (h : Dy base w s1 p1 l1 c1 q1 k1 d1 V E) {b : Nat} (hb : b < base) : NB p1 q1 b := by
  obtain ⟨x, y, h1, h2, -⟩ := h
  exact ⟨fun a ha => by have := (h1.blk a ha).1; omega, fun a ha => by have := (h2.blk a ha).1; omega⟩
end Go.Proofs.YteedfmghgkmofaaGreatDoor
namespace Go.Proofs.YteedfmghgkmofaaGreatDoor
open Go.RowKit
theorem dig_zero6 : dig 0 = [] := by decide +kernel
theorem dig_one6 : dig 1 = [1] := by decide +kernel
set_option maxRecDepth 20000 in
set_option maxHeartbeats 1000000 in
theorem int0X_ (E9 : Nat) (w : World) : Calls Tryz.prog 36 #[.int .i64 0] w fun e w' => ∃ (s : Bool) (p : Option Addr) (l c : Nat) (q : Option Addr) (k d : Nat), e = .returned (.agg #[.bool s, .slice p l c, .slice q k d]) ∧ Dy w.heap.size w' s p l c q k d 0 E9 ∧ Kp w w' := by
  obtain ⟨B, hB⟩ : ∃ B, B = w.heap.size := ⟨_, rfl⟩
  obtain ⟨w0, hw0⟩ : ∃ w0, w0 = w.alloc (.cells #[.bool false, .slice none 0 0, .slice none 0 0] 43) := ⟨_, rfl⟩
  have kw : Kp w w0 := by rw [hw0]; exact (Kp.refl w).alloc _
  have r0 : w0.cell? ⟨B, 0, none⟩ = some (.bool false) := by rw [hw0, hB]; simp [go_sem]
  have r1 : w0.cell? ⟨B, 1, none⟩ = some (.slice none 0 0) := by rw [hw0, hB]; simp [go_sem]
  have r2 : w0.cell? ⟨B, 2, none⟩ = some (.slice none 0 0) := by rw [hw0, hB]; simp [go_sem]
  have f0 : w0.frozen? ⟨B, 0, none⟩ = false := by rw [hw0, hB]; simp [go_sem]
  have f1 : w0.frozen? ⟨B, 1, none⟩ = false := by rw [hw0, hB]; simp [go_sem]
  have f2 : w0.frozen? ⟨B, 2, none⟩ = false := by rw [hw0, hB]; simp [go_sem]
  have hlt := cell_lt r0
  have hs := rsmall_ 0 (by decide) w0
  have HW : Hid (w0 = w.alloc (.cells #[.bool false, .slice none 0 0, .slice none 0 0] 43) ∧ B = w.heap.size ∧ Kp w w0) := ⟨hw0, hB, kw⟩
  clear hw0 hB kw
  go_enter Tryz.func36, Tryz.ntmps36
  go_wp2_with fail
  rw [← HW.out.2.1]
  try rw [← HW.out.1]
  refine hs.mono ?_; rintro e w1 ⟨v, rfl, ho, k1⟩
  obtain ⟨pv, cv, rfl, hav, hcv⟩ := ho.arr
  obtain ⟨L, hL⟩ : ∃ L, L = (dig 0).length := ⟨_, rfl⟩
  rw [← hL]
  obtain ⟨g4, hg4⟩ : ∃ g4, g4 = w1.heap.size := ⟨_, rfl⟩
  obtain ⟨w4, hw4⟩ : ∃ w4, w4 = w1.alloc (.cells #[.int .u32 1] 100) := ⟨_, rfl⟩
  have k4 : Kp w1 w4 := by rw [hw4]; exact (Kp.refl _).alloc _
  have ar4 : Arr w4 (some ⟨g4, 0, none⟩) (dig 1) := by
    have h := (row1 w1 1).all rfl
    rw [← hw4, ← hg4] at h
    rw [dig_one6]
    exact h
  have h := fracX_ false (.slice pv (dig 0).length cv) (.slice (some ⟨g4, 0, none⟩) (dig 1).length 1) (dig 0) (dig 1) 0 w4 ⟨pv, cv, rfl, hav.grown k4, hcv⟩ ⟨some ⟨g4, 0, none⟩, 1, rfl, ar4, by rw [dig_one6]; decide⟩ (Wd_dig _) (Wd_dig _) (by rw [dig_zero6]; decide) (by rw [dig_one6]; decide) (by rw [val_dig]; decide) (by decide)
  rw [val_dig, val_dig] at h
  rw [show (dig 1).length = 1 from by rw [dig_one6]; rfl] at h
  rw [← hL] at h
  have k04 := k1.trans k4
  have HG : Hid (g4 = w1.heap.size ∧ w4 = w1.alloc (.cells #[.int .u32 1] 100)) := ⟨hg4, hw4⟩
  replace r0 := kkeep k04 r0
  replace r1 := kkeep k04 r1
  replace r2 := kkeep k04 r2
  replace f0 := (kfro k04 hlt).trans f0
  replace f1 := (kfro k04 hlt).trans f1
  replace f2 := (kfro k04 hlt).trans f2
  have HK : Hid (Kp w0 w4 ∧ B < w0.heap.size) := ⟨k04, hlt⟩
  have hlt4 := cell_lt r0
  clear hs ho hav hcv hL hg4 hw4 k4 ar4 k1 k04 hlt
  go_wp2_with fail
  rw [← HG.out.1, ← HG.out.2]
  refine h.mono ?_; rintro e w5 ⟨vn, vd, a', b', ng, rfl, o1, o2, ff, k5⟩
  obtain ⟨pn, cn, rfl, an, ln⟩ := o1.arr
  obtain ⟨pd, cd, rfl, ad, ld⟩ := o2.arr
  replace r0 := kkeep k5 r0
  replace r1 := kkeep k5 r1
  replace r2 := kkeep k5 r2
  replace f0 := (kfro k5 hlt4).trans f0
  replace f1 := (kfro k5 hlt4).trans f1
  replace f2 := (kfro k5 hlt4).trans f2
  have z1 : a' = 0 ∧ b' = 1 := ff.1.2.1 rfl
  have hp : Dy w4.heap.size w5 ng pn (dig a').length cn pd (dig b').length cd 0 E9 :=
    ⟨a', 0, o1, by rw [z1.2] at o2 ⊢; exact o2, ⟨Nat.zero_le _, Or.inr rfl, by rw [z1.1]; simp⟩, fun h => absurd rfl h⟩
  have hq := (((hp.set (x := ⟨B, 0, none⟩) hlt4 (.bool ng)).set (x := ⟨B, 1, none⟩) hlt4 (.slice pn (dig a').length cn)).set (x := ⟨B, 2, none⟩) hlt4 (.slice pd (dig b').length cd)).mono (b2 := w.heap.size) (by have h1 := Below.size HW.out.2.2; have h2 := Below.size HK.out.1; omega)
  have hkw : Kp w (((w5.setCell ⟨B, 0, none⟩ (.bool ng)).setCell ⟨B, 1, none⟩ (.slice pn (dig a').length cn)).setCell ⟨B, 2, none⟩ (.slice pd (dig b').length cd)) := by
    have hB := HW.out.2.1
    exact ((((HW.out.2.2.trans HK.out.1).trans k5).setCell (by rw [hB]; exact Nat.le_refl _) _).setCell (by rw [hB]; exact Nat.le_refl _) _).setCell (by rw [hB]; exact Nat.le_refl _) _
  generalize (dig a').length = La at hq hkw ⊢
  generalize (dig b').length = Lb at hq hkw ⊢
  have HO : Hid (_ ∧ _) := ⟨hq, hkw⟩
  clear h hp hq hkw o1 o2 ff z1 k5 an ln ad ld hlt4 HG
  go_wp2
  exact bodyPost_ret (v := .agg #[.bool ng, .slice pn La cn, .slice pd Lb cd]) (by simp [results, Tryz.results36, go_sem, r0, r1, r2]) rfl ⟨ng, pn, La, cn, pd, Lb, cd, rfl, HO.out.1, HO.out.2⟩
end Go.Proofs.YteedfmghgkmofaaGreatDoor
namespace Go.Proofs.YteedfmghgkmofaaGreatDoor
open Go.RowKit
theorem rS_lt (p A B : Nat) (hB : 0 < B) (hp : 0 < p) : rS p A B < 2 ^ p ∧ (rE p A B = 0 ∨ 2 ^ (p - 1) ≤ rS p A B) := by
  obtain ⟨h1, h2⟩ := rE_spec p A B hB hp
  have hq : 0 < B * 2 ^ rE p A B := Nat.mul_pos hB (Nat.two_pow_pos _)
  unfold rS
  refine ⟨?_, ?_⟩
  · rw [Nat.div_lt_iff_lt_mul hq, Nat.mul_comm (2 ^ p), Nat.mul_assoc, ← Nat.pow_add]
    exact h1
  · rcases h2 with h2 | h2
    · exact Or.inl h2
    · by_cases c : rE p A B = 0
      · exact Or.inl c
      · right
        rw [Nat.le_div_iff_mul_le hq, Nat.mul_comm (2 ^ (p - 1)), Nat.mul_assoc, ← Nat.pow_add, show rE p A B + (p - 1) = rE p A B + p - 1 from by omega]
        exact h2
/-- the place of a signed ratio V c1 by c2, rounded -/
def gpl (p T G I : Nat) (d : Int) (c1 c2 : Nat) (V : Int) : Int := if V = 0 then 0 else (if V < 0 then -((finU p T G I (dirN true d) (rU (dirN true d) p (V.natAbs * c1) c2) : Nat) : Int) else ((finU p T G I (dirN false d) (rU (dirN false d) p (V.natAbs * c1) c2) : Nat) : Int))
end Go.Proofs.YteedfmghgkmofaaGreatDoor
namespace Go.Proofs.YteedfmghgkmofaaGreatDoor
open Go.RowKit
/-- the rung of S of the places 2^E: S of no more than p bits, or 2^p -/
theorem rgU_place (p S E : Nat) (hp : 0 < p) (hS : S ≤ 2 ^ p) (hE : E = 0 ∨ 2 ^ (p - 1) ≤ S) : rgU p (S * 2 ^ E) = E * 2 ^ (p - 1) + S := by
  have ep : (2 : Nat) ^ p = 2 * 2 ^ (p - 1) := by rw [show p = p - 1 + 1 from by omega, Nat.pow_succ, Nat.add_sub_cancel]; omega
  have pp := Nat.two_pow_pos (p - 1)
  have full : ∀ X x : Nat, 2 ^ (p - 1) ≤ X → X < 2 ^ p → rgU p (X * 2 ^ x) = x * 2 ^ (p - 1) + X := by
    intro X x h1 h2
    have b1 : blen X ≤ p := (blen_le_iff X p).2 h2
    have b2 : ¬ blen X ≤ p - 1 := fun h => by have := (blen_le_iff X (p - 1)).1 h; omega
    have b3 : p - blen X = 0 := by omega
    rw [rgU_mul p X x 0 (by omega) (by rw [b3, Nat.zero_min]) b1, Nat.sub_zero, Nat.pow_zero, Nat.mul_one]
  by_cases c : S = 2 ^ p
  · have e : S * 2 ^ E = 2 ^ (p - 1) * 2 ^ (E + 1) := by
      rw [c, ep, Nat.pow_succ]; ac_rfl
    rw [e, full _ _ (Nat.le_refl _) (by omega), c, ep, Nat.add_mul, Nat.one_mul, Nat.two_mul]
    omega
  · have hlt : S < 2 ^ p := by omega
    rcases hE with h | h
    · rw [h, Nat.pow_zero, Nat.mul_one, Nat.zero_mul, Nat.zero_add]
      by_cases z : S = 0
      · rw [z, rgU_zero]
      · have h1 := rgU_mul p S 0 0 z (by omega) ((blen_le_iff S p).2 hlt)
        rw [Nat.pow_zero, Nat.mul_one, Nat.sub_zero, Nat.zero_mul, Nat.zero_add] at h1
        exact h1
    · exact full S E h hlt
/-- lo, hi and ne lie about A by B as closely as they can (v: the number at a place) -/
def TU (I : Nat) (v : Nat → Nat) (A B lo hi ne : Nat) : Prop := (lo = hi ∧ ne = lo ∧ lo < I ∧ v lo * B = A) ∨ (hi = lo + 1 ∧ lo < I ∧ v lo * B < A ∧ (hi < I → A < v hi * B) ∧ ((2 * A < (v lo + v hi) * B ∧ ne = lo) ∨ ((v lo + v hi) * B < 2 * A ∧ ne = hi) ∨ (2 * A = (v lo + v hi) * B ∧ (ne = lo ∨ ne = hi) ∧ ne % 2 = 0)))
theorem tightU (p T G I : Nat) (v : Nat → Nat) (hv : ∀ E S : Nat, S ≤ 2 ^ p → (E = 0 ∨ 2 ^ (p - 1) ≤ S) → v (E * 2 ^ (p - 1) + S) = S * 2 ^ E) (A B : Nat) (hB : 0 < B) (hp : 2 ≤ p) (hT : p ≤ T) (hG : (T - p + 2) * 2 ^ (p - 1) = G + 1) (hI : G + 1 = I) :
    TU I v A B (finU p T G I (-1) (rU (-1) p A B)) (finU p T G I 1 (rU 1 p A B)) (finU p T G I 0 (rU 0 p A B)) := by
  obtain ⟨s1, s2⟩ := rS_lt p A B hB (by omega)
  have ep : (2 : Nat) ^ p = 2 * 2 ^ (p - 1) := by rw [show p = p - 1 + 1 from by omega, Nat.pow_succ, Nat.add_sub_cancel]; omega
  have pp := Nat.two_pow_pos (p - 1)
  have hw : 0 < B * 2 ^ rE p A B := Nat.mul_pos hB (Nat.two_pow_pos _)
  have d1 := Nat.div_add_mod A (B * 2 ^ rE p A B)
  have dr := Nat.mod_lt A hw
  have q1 : A / (B * 2 ^ rE p A B) = rS p A B := rfl
  have q3 : A % (B * 2 ^ rE p A B) = rR p A B := rfl
  rw [q1, q3] at d1
  rw [q3] at dr
  have hGp : (T - p) * 2 ^ (p - 1) + (2 ^ p - 1) = G := by
    rw [Nat.add_mul] at hG; omega
  unfold rU
  generalize rS p A B = S at *
  generalize rR p A B = R at *
  generalize rE p A B = E at *
  clear q1 q3
  by_cases ct : E + p ≤ T
  · have fin : ∀ (d : Int) (u : Bool), (d = -1 → u = false) → finU p T G I d ((S + u.toNat) * 2 ^ E) = E * 2 ^ (p - 1) + (S + u.toNat) := by
      intro d u hd
      have hS1 : S + u.toNat ≤ 2 ^ p := by cases u <;> simp <;> omega
      have hE1 : E = 0 ∨ 2 ^ (p - 1) ≤ S + u.toNat := by rcases s2 with h | h; exact Or.inl h; exact Or.inr (by omega)
      unfold finU
      by_cases cb : blen ((S + u.toNat) * 2 ^ E) ≤ T
      · rw [if_pos cb]
        exact rgU_place p _ E (by omega) hS1 hE1
      · rw [if_neg cb]
        have hge : 2 ^ T ≤ (S + u.toNat) * 2 ^ E := by
          rcases Nat.lt_or_ge ((S + u.toNat) * 2 ^ E) (2 ^ T) with h | h
          · exact absurd ((blen_le_iff _ T).2 h) cb
          · exact h
        have hle : (2 : Nat) ^ p * 2 ^ E ≤ 2 ^ T := by rw [← Nat.pow_add]; exact Nat.pow_le_pow_right (by decide) (by omega)
        have hPE := Nat.two_pow_pos E
        have hSe : S + u.toNat = 2 ^ p := by
          rcases Nat.lt_or_ge (S + u.toNat) (2 ^ p) with h | h
          · have := Nat.mul_lt_mul_of_pos_right h hPE
            omega
          · omega
        have hu : u = true := by cases u <;> simp at hSe ⊢; omega
        have hdn : d ≠ -1 := fun h => by rw [hd h] at hu; cases hu
        rw [if_neg hdn, hSe]
        have hET : E = T - p := by
          rcases Nat.lt_or_ge (E + p) T with h | h
          · have : (2 : Nat) ^ (p + E) < 2 ^ T := Nat.pow_lt_pow_right (by decide) (by omega)
            rw [hSe, ← Nat.pow_add] at hge
            omega
          · omega
        rw [hET]; omega
    have up1 : upw (-1) S R (B * 2 ^ E) = false := rfl
    have up2 : upw 1 S R (B * 2 ^ E) = decide (0 < R) := rfl
    have up3 : upw 0 S R (B * 2 ^ E) = (decide (B * 2 ^ E < 2 * R) || (decide (B * 2 ^ E = 2 * R) && decide (S % 2 = 1))) := rfl
    rw [fin (-1) _ (fun _ => up1), fin 1 _ (fun h => absurd h (by decide)), fin 0 _ (fun h => absurd h (by decide)), up1, up2, up3]
    have hlo : E * 2 ^ (p - 1) + S < I := by
      have : E * 2 ^ (p - 1) ≤ (T - p) * 2 ^ (p - 1) := Nat.mul_le_mul_right _ (by omega)
      omega
    have v1 := hv E S (by omega) s2
    have v2 := hv E (S + 1) (by omega) (by rcases s2 with h | h; exact Or.inl h; exact Or.inr (by omega))
    have w1 : v (E * 2 ^ (p - 1) + S) * B = B * 2 ^ E * S := by rw [v1]; ac_rfl
    have w2 : v (E * 2 ^ (p - 1) + (S + 1)) * B = B * 2 ^ E * S + B * 2 ^ E := by rw [v2, ← Nat.mul_succ]; ac_rfl
    have ev : E * 2 ^ (p - 1) % 2 = 0 := by
      rw [show p - 1 = p - 2 + 1 from by omega, Nat.pow_succ, ← Nat.mul_assoc]; exact Nat.mul_mod_left _ _
    generalize E * 2 ^ (p - 1) = Z at *
    generalize B * 2 ^ E = W at *
    generalize W * S = WS at *
    have t0 : false.toNat = 0 := rfl
    have t1 : true.toNat = 1 := rfl
    by_cases cR : R = 0
    · left
      rw [decide_eq_false (show ¬ 0 < R by omega), decide_eq_false (show ¬ W < 2 * R by omega), decide_eq_false (show ¬ W = 2 * R by omega), Bool.false_and, Bool.or_false, t0, Nat.add_zero]
      exact ⟨rfl, rfl, hlo, by omega⟩
    · right
      rw [decide_eq_true (show 0 < R by omega), t0, t1, show S + 0 = S from rfl]
      refine ⟨by omega, hlo, by omega, fun _ => by omega, ?_⟩
      rw [Nat.add_mul, w1, w2]
      by_cases c1 : W < 2 * R
      · rw [decide_eq_true c1, Bool.true_or, t1]
        exact Or.inr (Or.inl ⟨by omega, rfl⟩)
      · rw [decide_eq_false c1, Bool.false_or]
        by_cases c2 : W = 2 * R
        · rw [decide_eq_true c2, Bool.true_and]
          refine Or.inr (Or.inr ⟨by omega, ?_⟩)
          by_cases c3 : S % 2 = 1
          · rw [decide_eq_true c3, t1]; exact ⟨Or.inr rfl, by omega⟩
          · rw [decide_eq_false c3, t0]; exact ⟨Or.inl rfl, by omega⟩
        · rw [decide_eq_false c2, Bool.false_and, t0]
          exact Or.inl ⟨by omega, rfl⟩
  · have hS0 : 2 ^ (p - 1) ≤ S := s2.resolve_left (by omega)
    have big : (2 : Nat) ^ T ≤ S * 2 ^ E := by
      have h1 : (2 : Nat) ^ (p - 1) * 2 ^ E ≤ S * 2 ^ E := Nat.mul_le_mul_right _ hS0
      rw [← Nat.pow_add] at h1
      exact Nat.le_trans (Nat.pow_le_pow_right (by decide) (by omega)) h1
    have nb : ∀ u : Bool, ¬ blen ((S + u.toNat) * 2 ^ E) ≤ T := fun u h => by
      have h2 := (blen_le_iff _ T).1 h
      have h3 : S * 2 ^ E ≤ (S + u.toNat) * 2 ^ E := Nat.mul_le_mul_right _ (by omega)
      omega
    have f1 : ∀ u : Bool, finU p T G I (-1) ((S + u.toNat) * 2 ^ E) = G := fun u => by unfold finU; rw [if_neg (nb u), if_pos rfl]
    have f2 : ∀ u : Bool, finU p T G I 1 ((S + u.toNat) * 2 ^ E) = I := fun u => by unfold finU; rw [if_neg (nb u), if_neg (by decide)]
    have f3 : ∀ u : Bool, finU p T G I 0 ((S + u.toNat) * 2 ^ E) = I := fun u => by unfold finU; rw [if_neg (nb u), if_neg (by decide)]
    rw [f1, f2, f3]
    right
    have v1 := hv (T - p) (2 ^ p - 1) (by omega) (Or.inr (by omega))
    have v2 := hv (T - p) (2 ^ p) (Nat.le_refl _) (Or.inr (by omega))
    rw [hGp] at v1
    rw [show (T - p) * 2 ^ (p - 1) + 2 ^ p = I from by omega, ← Nat.pow_add, show p + (T - p) = T from by omega] at v2
    have vl : v G < 2 ^ T := by
      rw [v1, show (2 : Nat) ^ T = 2 ^ p * 2 ^ (T - p) from by rw [← Nat.pow_add]; exact congrArg _ (by omega)]
      exact Nat.mul_lt_mul_of_pos_right (by omega) (Nat.two_pow_pos _)
    have hA : B * 2 ^ T ≤ A := by
      have h1 : B * 2 ^ T ≤ B * (S * 2 ^ E) := Nat.mul_le_mul_left _ big
      have h2 : B * (S * 2 ^ E) = B * 2 ^ E * S := by ac_rfl
      omega
    have h4 : v G * B < 2 ^ T * B := Nat.mul_lt_mul_of_pos_right vl hB
    rw [Nat.mul_comm B] at hA
    refine ⟨by omega, by omega, by omega, fun h => by omega, Or.inr (Or.inl ⟨?_, rfl⟩)⟩
    rw [Nat.add_mul, v2]
    omega
/-- the same with a sign: places and numbers -/
def TS (I : Nat) (v : Nat → Nat) (A B : Int) (lo hi ne : Int) : Prop := ∀ vs : Int → Int, (∀ z : Int, 0 ≤ z → vs z = (v z.natAbs : Int)) → (∀ z : Int, vs (-z) = - vs z) → (lo = hi ∧ ne = lo ∧ -(I : Int) < lo ∧ lo < I ∧ vs lo * B = A) ∨ (hi = lo + 1 ∧ -(I : Int) ≤ lo ∧ hi ≤ I ∧ (-(I : Int) < lo → vs lo * B < A) ∧ (hi < I → A < vs hi * B) ∧ ((2 * A < (vs lo + vs hi) * B ∧ ne = lo) ∨ ((vs lo + vs hi) * B < 2 * A ∧ ne = hi) ∨ (2 * A = (vs lo + vs hi) * B ∧ (ne = lo ∨ ne = hi) ∧ ne % 2 = 0)))
theorem TU.pos {I : Nat} {v : Nat → Nat} {A B lo hi ne : Nat} (h : TU I v A B lo hi ne) : TS I v (A : Int) (B : Int) (lo : Int) (hi : Int) (ne : Int) := by
  intro vs h1 h2
  have e1 : vs (lo : Int) = (v lo : Int) := by rw [h1 _ (by omega)]; rfl
  have e2 : vs (hi : Int) = (v hi : Int) := by rw [h1 _ (by omega)]; rfl
  rw [e1, e2]
  rcases h with ⟨a1, a2, a3, a4⟩ | ⟨a1, a2, a3, a4, a5⟩
  · left
    refine ⟨by omega, by omega, by omega, by omega, ?_⟩
    rw [← a4, Int.natCast_mul]
  · right
    have m1 : ((v lo * B : Nat) : Int) = (v lo : Int) * (B : Int) := Int.natCast_mul _ _
    have m2 : ((v hi * B : Nat) : Int) = (v hi : Int) * (B : Int) := Int.natCast_mul _ _
    rw [Nat.add_mul] at a5
    rw [Int.add_mul, ← m1, ← m2]
    generalize v lo * B = X at *
    generalize v hi * B = Y at *
    refine ⟨by omega, by omega, by omega, fun _ => by omega, fun h => ?_, ?_⟩
    · have := a4 (by omega); omega
    · omega
theorem TU.neg {I : Nat} {v : Nat → Nat} {A B lo hi ne : Nat} (h : TU I v A B lo hi ne) : TS I v (-(A : Int)) (B : Int) (-(hi : Int)) (-(lo : Int)) (-(ne : Int)) := by
  intro vs h1 h2
  have e1 : vs (-(lo : Int)) = -(v lo : Int) := by rw [h2, h1 _ (by omega)]; rfl
  have e2 : vs (-(hi : Int)) = -(v hi : Int) := by rw [h2, h1 _ (by omega)]; rfl
  rw [e1, e2]
  have m1 : ((v lo * B : Nat) : Int) = (v lo : Int) * (B : Int) := Int.natCast_mul _ _
  have m2 : ((v hi * B : Nat) : Int) = (v hi : Int) * (B : Int) := Int.natCast_mul _ _
  rcases h with ⟨a1, a2, a3, a4⟩ | ⟨a1, a2, a3, a4, a5⟩
  · left
    refine ⟨by omega, by omega, by omega, by omega, ?_⟩
    rw [Int.neg_mul, ← m2, ← a1, a4]
  · right
    rw [Nat.add_mul] at a5
    rw [Int.add_mul, Int.neg_mul, Int.neg_mul, ← m1, ← m2]
    generalize v lo * B = X at *
    generalize v hi * B = Y at *
    refine ⟨by omega, by omega, by omega, fun h => ?_, fun _ => by omega, ?_⟩
    · have := a4 (by omega); omega
    · omega
/-- Down, Up and Near of a signed ratio lie about it as closely as they can -/
theorem gpl_tight (p T G I : Nat) (v : Nat → Nat) (hv : ∀ E S : Nat, S ≤ 2 ^ p → (E = 0 ∨ 2 ^ (p - 1) ≤ S) → v (E * 2 ^ (p - 1) + S) = S * 2 ^ E) (c1 c2 : Nat) (hB : 0 < c2) (hp : 2 ≤ p) (hT : p ≤ T) (hG : (T - p + 2) * 2 ^ (p - 1) = G + 1) (hI : G + 1 = I) (V : Int) :
    TS I v (V * c1) (c2 : Int) (gpl p T G I (-1) c1 c2 V) (gpl p T G I 1 c1 c2 V) (gpl p T G I 0 c1 c2 V) := by
  have k := tightU p T G I v hv (V.natAbs * c1) c2 hB hp hT hG hI
  unfold gpl
  by_cases z : V = 0
  · rw [if_pos z, if_pos z, if_pos z]
    intro vs h1 h2
    have v0 := hv 0 0 (Nat.zero_le _) (Or.inl rfl)
    rw [Nat.zero_mul, Nat.zero_mul] at v0
    left
    refine ⟨rfl, rfl, by omega, by omega, ?_⟩
    rw [h1 0 (by omega), show (0 : Int).natAbs = 0 + 0 from rfl, v0, z]
    simp
  · rw [if_neg z, if_neg z, if_neg z]
    by_cases n : V < 0
    · rw [if_pos n, if_pos n, if_pos n]
      have e : V * (c1 : Int) = -((V.natAbs * c1 : Nat) : Int) := by
        rw [Int.natCast_mul, show (V.natAbs : Int) = -V from by omega, Int.neg_mul, Int.neg_neg]
      rw [e]
      exact k.neg
    · rw [if_neg n, if_neg n, if_neg n]
      have e : V * (c1 : Int) = ((V.natAbs * c1 : Nat) : Int) := by
        rw [Int.natCast_mul, show (V.natAbs : Int) = V from by omega]
      rw [e]
      exact k.pos
end Go.Proofs.YteedfmghgkmofaaGreatDoor
