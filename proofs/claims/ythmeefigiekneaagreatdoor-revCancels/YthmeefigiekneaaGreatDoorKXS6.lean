import Derived.Test.YthmeefigiekneaaGreatDoorProg
import Derived.Test.YthmeefigiekneaaGreatDoorKXA0
import Derived.Test.YthmeefigiekneaaGreatDoorKXM
import Derived.Test.YthmeefigiekneaaGreatDoorKXT
import Derived.Test.YthmeefigiekneaaGreatDoorKXLX
import Derived.Test.YthmeefigiekneaaGreatDoorKXY
import Derived.Test.YthmeefigiekneaaGreatDoorKRX
import Derived.Test.YthmeefigiekneaaGreatDoorKXRL
import Derived.Test.YthmeefigiekneaaGreatDoorKXCO
import Derived.Test.YthmeefigiekneaaGreatDoorKLN
import Derived.Test.YthmeefigiekneaaGreatDoorKXRN
import Derived.Test.YthmeefigiekneaaGreatDoorKXW4
import Derived.Test.YthmeefigiekneaaGreatDoorKXBY
import Derived.Test.YthmeefigiekneaaGreatDoorKXTZ
import Derived.Test.YthmeefigiekneaaGreatDoorKXG1
import Derived.Test.YthmeefigiekneaaGreatDoorKXG4
import Derived.Test.YthmeefigiekneaaGreatDoorKXFM
import Derived.Test.YthmeefigiekneaaGreatDoorKXS1
import Derived.Test.YthmeefigiekneaaGreatDoorKXM3
import Derived.Test.YthmeefigiekneaaGreatDoorKXQF
import Derived.Test.YthmeefigiekneaaGreatDoorKQA
import Derived.Test.YthmeefigiekneaaGreatDoorKQP
import Derived.Test.YthmeefigiekneaaGreatDoorKXQU
import Derived.Test.YthmeefigiekneaaGreatDoorKQB
import Derived.Test.YthmeefigiekneaaGreatDoorKQBT
import Derived.Test.YthmeefigiekneaaGreatDoorKQJd
import Derived.Test.YthmeefigiekneaaGreatDoorKMR7Q
import Derived.Test.YthmeefigiekneaaGreatDoorKXH2Q
import Derived.Test.YthmeefigiekneaaGreatDoorKXMR
import Derived.Test.YthmeefigiekneaaGreatDoorKXO3
import Derived.WalkKit
import Derived.ProofKit
import Derived.RowKit3
import Derived.WalkSpells
import Derived.StillTactics
import Derived.Deep.QuietTactic
import Derived.BigQuiet
import Derived.Below
import Derived.Deep.OwnRows
import Derived.OwnWalk
import Derived.Laws.BitsAllLaws
import Derived.Laws.Slices
import Derived.Laws.Bits64b
import Derived.Deep.RegionHeld3
import Derived.Laws.FloatArith
namespace Go.Proofs.YthmeefigiekneaaGreatDoor
open Go.RowKit
set_option maxRecDepth 20000 in
set_option maxHeartbeats 400000 in
theorem timesR (v1 v2 : Value) (a b : Nat) (w : World) (h1 : Ls w v1 (dig a)) (h2 : Ls w v2 (dig b)) (l1 : len32 a ≤ 16384) (l2 : len32 b ≤ 16384) :
    Calls Tryz.prog 50 #[v1, v2] w fun e w' => ∃ p c, e = .returned (.slice p (dig (a * b)).length c) ∧ Arr w' p (dig (a * b)) ∧ (dig (a * b)).length ≤ c ∧ Kp w w' := by
  obtain ⟨p, c, rfl, hA, hc⟩ := h1
  obtain ⟨q, d, rfl, hB, hd⟩ := h2
  have h := rtimes_ p q c d (dig a) (dig b) w hA hB (Wd_dig a) (Wd_dig b) (by change len32 a ≤ _; omega) (by change len32 b ≤ _; omega)
  rw [val_dig, val_dig] at h
  refine h.mono ?_
  rintro e w' ⟨v, h1, h2, h3⟩
  obtain ⟨p, c, rfl, h4, h5⟩ := h2.arr
  exact ⟨p, c, h1, h4, h5, h3⟩
set_option maxRecDepth 20000 in
set_option maxHeartbeats 400000 in
theorem plusR (v1 v2 : Value) (a b : Nat) (w : World) (h1 : Ls w v1 (dig a)) (h2 : Ls w v2 (dig b)) (l1 : len32 a ≤ 32768) (l2 : len32 b ≤ 32768) :
    Calls Tryz.prog 74 #[v1, v2] w fun e w' => ∃ p c, e = .returned (.slice p (dig (a + b)).length c) ∧ Arr w' p (dig (a + b)) ∧ (dig (a + b)).length ≤ c ∧ Kp w w' := by
  obtain ⟨p, c, rfl, hA, hc⟩ := h1
  obtain ⟨q, d, rfl, hB, hd⟩ := h2
  have h := rplus_ p q c d (dig a) (dig b) w hA hB (Wd_dig a) (Wd_dig b) (by change len32 a < _; omega) (by change len32 b < _; omega)
  refine h.mono ?_
  rintro e w' ⟨v, L, h1, h2, h3, h4, _, h5⟩
  rw [val_dig, val_dig] at h4
  rw [nz_dig L h3, h4] at h2
  obtain ⟨p, c, rfl, h6, h7⟩ := h2.arr
  exact ⟨p, c, h1, h6, h7, h5⟩
set_option maxRecDepth 20000 in
set_option maxHeartbeats 400000 in
theorem minusR (v1 v2 : Value) (a b : Nat) (w : World) (h1 : Ls w v1 (dig a)) (h2 : Ls w v2 (dig b)) (l1 : len32 a ≤ 32768) (hle : b ≤ a) :
    Calls Tryz.prog 75 #[v1, v2] w fun e w' => ∃ p c, e = .returned (.slice p (dig (a - b)).length c) ∧ Arr w' p (dig (a - b)) ∧ (dig (a - b)).length ≤ c ∧ Kp w w' := by
  obtain ⟨p, c, rfl, hA, hc⟩ := h1
  obtain ⟨q, d, rfl, hB, hd⟩ := h2
  have h := rminus_ p q c d (dig a) (dig b) w hA hB (Wd_dig a) (Wd_dig b) (by change len32 a < _; omega) (by exact len32_mono hle) (by rw [val_dig, val_dig]; exact hle)
  rw [val_dig, val_dig] at h
  refine h.mono ?_
  rintro e w' ⟨v, h1, h2, h3⟩
  obtain ⟨p, c, rfl, h4, h5⟩ := h2.arr
  exact ⟨p, c, h1, h4, h5, h3⟩
set_option maxRecDepth 20000 in
set_option maxHeartbeats 1000000 in
theorem raddEq_ (sa sb : Bool) (a1 a2 b1 b2 : Nat) (P1 P2 Q1 Q2 : Option Addr) (C1 C2 D1 D2 : Nat) (w : World) (h1 : Arr w P1 (dig a1)) (l1 : (dig a1).length ≤ C1) (h2 : Arr w P2 (dig a2)) (l2 : (dig a2).length ≤ C2) (h3 : Arr w Q1 (dig b1)) (l3 : (dig b1).length ≤ D1) (h4 : Arr w Q2 (dig b2)) (l4 : (dig b2).length ≤ D2) (k1 : len32 a1 ≤ 4000) (k2 : len32 a2 ≤ 4000) (k3 : len32 b1 ≤ 4000) (k4 : len32 b2 ≤ 4000) (z2 : a2 ≠ 0) (z4 : b2 ≠ 0) (X Y D : Nat) (hX : X = a1 * b2) (hY : Y = b1 * a2) (hD : D = a2 * b2) (lX : len32 X ≤ 16000) (lY : len32 Y ≤ 16000) (lD : len32 D ≤ 16000) (lS : len32 (X + Y) ≤ 16000) (hst : sa = sb) :
    Calls Tryz.prog 44 #[.agg #[.bool sa, .slice P1 (dig a1).length C1, .slice P2 (dig a2).length C2], .agg #[.bool sb, .slice Q1 (dig b1).length D1, .slice Q2 (dig b2).length D2]] w fun e w' => ∃ (vn vd : Value) (a' b' : Nat) (ng : Bool), e = .returned (.agg #[.bool ng, vn, vd]) ∧ Ls w' vn (dig a') ∧ Ls w' vd (dig b') ∧ (FracOf (X + Y) D 0 a' b' ∧ (X + Y ≠ 0 → ng = sa)) ∧ Kp w w' := by
  have hz : D ≠ 0 := by rw [hD]; exact Nat.mul_ne_zero z2 z4
  obtain ⟨E1, g1⟩ : ∃ E, E = (dig a1).length := ⟨_, rfl⟩
  obtain ⟨E2, g2⟩ : ∃ E, E = (dig a2).length := ⟨_, rfl⟩
  obtain ⟨E3, g3⟩ : ∃ E, E = (dig b1).length := ⟨_, rfl⟩
  obtain ⟨E4, g4⟩ : ∃ E, E = (dig b2).length := ⟨_, rfl⟩
  rw [← g1, ← g2, ← g3, ← g4]
  obtain ⟨B, hB⟩ : ∃ B, B = w.heap.size := ⟨_, rfl⟩
  obtain ⟨wA, hwA⟩ : ∃ wA, wA = w.alloc (.cells #[.bool sa, .slice P1 E1 C1, .slice P2 E2 C2] 46) := ⟨_, rfl⟩
  obtain ⟨wB, hwB⟩ : ∃ wB, wB = wA.alloc (.cells #[.bool sb, .slice Q1 E3 D1, .slice Q2 E4 D2] 46) := ⟨_, rfl⟩
  obtain ⟨w0, hw0⟩ : ∃ w0, w0 = wB.alloc (.cells #[.bool false, .slice none 0 0, .slice none 0 0] 46) := ⟨_, rfl⟩
  have sA : wA.heap.size = B + 1 := by rw [hwA, hB]; simp
  have sB : wB.heap.size = B + 2 := by rw [hwB]; simp [sA]
  have x0 : wA.cell? ⟨B, 0, none⟩ = some (.bool sa) := by rw [hwA, hB]; simp [go_sem]
  have x1 : wA.cell? ⟨B, 1, none⟩ = some (.slice P1 E1 C1) := by rw [hwA, hB]; simp [go_sem]
  have x2 : wA.cell? ⟨B, 2, none⟩ = some (.slice P2 E2 C2) := by rw [hwA, hB]; simp [go_sem]
  have y0 : wB.cell? ⟨B + 1, 0, none⟩ = some (.bool sb) := by rw [hwB, ← sA]; simp [go_sem]
  have y1 : wB.cell? ⟨B + 1, 1, none⟩ = some (.slice Q1 E3 D1) := by rw [hwB, ← sA]; simp [go_sem]
  have y2 : wB.cell? ⟨B + 1, 2, none⟩ = some (.slice Q2 E4 D2) := by rw [hwB, ← sA]; simp [go_sem]
  have r0 : w0.cell? ⟨B + 2, 0, none⟩ = some (.bool false) := by rw [hw0, ← sB]; simp [go_sem]
  have r1 : w0.cell? ⟨B + 2, 1, none⟩ = some (.slice none 0 0) := by rw [hw0, ← sB]; simp [go_sem]
  have r2 : w0.cell? ⟨B + 2, 2, none⟩ = some (.slice none 0 0) := by rw [hw0, ← sB]; simp [go_sem]
  have f0 : w0.frozen? ⟨B + 2, 0, none⟩ = false := by rw [hw0, ← sB]; simp [go_sem]
  have f1 : w0.frozen? ⟨B + 2, 1, none⟩ = false := by rw [hw0, ← sB]; simp [go_sem]
  have f2 : w0.frozen? ⟨B + 2, 2, none⟩ = false := by rw [hw0, ← sB]; simp [go_sem]
  have kw : Kp w w0 := by rw [hw0, hwB, hwA]; exact (((Kp.refl w).alloc _).alloc _).alloc _
  have kAB : Kp wA wB := by rw [hwB]; exact (Kp.refl wA).alloc _
  have kB0 : Kp wB w0 := by rw [hw0]; exact (Kp.refl wB).alloc _
  have kA0 : Kp wA w0 := kAB.trans kB0
  have hlt := cell_lt r0
  -- the products
  have t1 := timesR (.slice P1 E1 C1) (.slice Q2 E4 D2) a1 b2 w0 ⟨P1, C1, by rw [g1], h1.grown kw, l1⟩ ⟨Q2, D2, by rw [g4], h4.grown kw, l4⟩ (by omega) (by omega)
  have t2 := fun w9 (k : Kp w0 w9) => timesR (.slice Q1 E3 D1) (.slice P2 E2 C2) b1 a2 w9 ⟨Q1, D1, by rw [g3], h3.grown (kw.trans k), l3⟩ ⟨P2, C2, by rw [g2], h2.grown (kw.trans k), l2⟩ (by omega) (by omega)
  have t3 := fun w9 (k : Kp w0 w9) => timesR (.slice P2 E2 C2) (.slice Q2 E4 D2) a2 b2 w9 ⟨P2, C2, by rw [g2], h2.grown (kw.trans k), l2⟩ ⟨Q2, D2, by rw [g4], h4.grown (kw.trans k), l4⟩ (by omega) (by omega)
  rw [← hX] at t1
  rw [← hY] at t2
  rw [← hD] at t3
  have HW : Hid (w0 = wB.alloc (.cells #[.bool false, .slice none 0 0, .slice none 0 0] 46) ∧ wB = wA.alloc (.cells #[.bool sb, .slice Q1 E3 D1, .slice Q2 E4 D2] 46) ∧ wA = w.alloc (.cells #[.bool sa, .slice P1 E1 C1, .slice P2 E2 C2] 46) ∧ B = w.heap.size ∧ wA.heap.size = B + 1 ∧ wB.heap.size = B + 2 ∧ Kp w w0 ∧ Kp wA w0 ∧ Kp wB w0) := ⟨hw0, hwB, hwA, hB, sA, sB, kw, kA0, kB0⟩
  have X0 := kkeep kA0 x0
  have X1 := kkeep kA0 x1
  have X2 := kkeep kA0 x2
  have Y0 := kkeep kB0 y0
  have Y1 := kkeep kB0 y1
  have Y2 := kkeep kB0 y2
  have HL : Hid (D ≠ 0 ∧ len32 X ≤ 16000 ∧ len32 Y ≤ 16000 ∧ len32 D ≤ 16000 ∧ len32 (X + Y) ≤ 16000) := ⟨hz, lX, lY, lD, lS⟩
  clear hw0 hwB hwA hB sA sB kw kAB kB0 kA0 h1 l1 h2 l2 h3 l3 h4 l4 k1 k2 k3 k4 z2 z4 hX hY hD hz lX lY lD lS g1 g2 g3 g4 x1 x2 y1 y2
  subst hst
  go_enter Tryz.func44, Tryz.ntmps44
  go_wp2_with fail
  rw [← HW.out.2.2.2.1]
  try rw [← HW.out.2.2.1]
  try rw [← HW.out.2.1]
  try rw [← HW.out.1]
  refine t1.mono ?_; rintro e w1 ⟨p1, c1, rfl, s1, m1, k1⟩
  obtain ⟨N1, hN1⟩ : ∃ N, N = (dig X).length := ⟨_, rfl⟩
  rw [← hN1]
  have H1 : Hid (N1 = (dig X).length) := hN1
  clear hN1
  replace X0 := kkeep k1 X0
  replace X2 := kkeep k1 X2
  replace Y0 := kkeep k1 Y0
  replace Y1 := kkeep k1 Y1
  replace Y2 := kkeep k1 Y2
  have t2' := t2 w1 k1
  clear t1 t2
  go_wp2_with fail
  refine t2'.mono ?_; rintro e w2 ⟨p2, c2, rfl, s2, m2, k2⟩
  obtain ⟨N2, hN2⟩ : ∃ N, N = (dig Y).length := ⟨_, rfl⟩
  rw [← hN2]
  have H2 : Hid (N2 = (dig Y).length) := hN2
  clear hN2
  replace X0 := kkeep k2 X0
  replace X2 := kkeep k2 X2
  replace Y0 := kkeep k2 Y0
  replace Y2 := kkeep k2 Y2
  have t3' := t3 w2 (k1.trans k2)
  clear t2' t3
  go_wp2_with fail
  refine t3'.mono ?_; rintro e w3 ⟨p3, c3, rfl, s3, m3, k3⟩
  obtain ⟨N3, hN3⟩ : ∃ N, N = (dig D).length := ⟨_, rfl⟩
  rw [← hN3]
  have H3 : Hid (N3 = (dig D).length) := hN3
  clear hN3
  replace X0 := kkeep k3 X0
  replace Y0 := kkeep k3 Y0
  have k03 := (k1.trans k2).trans k3
  have HS : Hid (Ls w3 (.slice p1 N1 c1) (dig X) ∧ Ls w3 (.slice p2 N2 c2) (dig Y) ∧ Ls w3 (.slice p3 N3 c3) (dig D)) := ⟨⟨p1, c1, by rw [H1.out], (s1.grown k2).grown k3, m1⟩, ⟨p2, c2, by rw [H2.out], s2.grown k3, m2⟩, ⟨p3, c3, by rw [H3.out], s3, m3⟩⟩
  clear t3' s1 s2 s3 m1 m2 m3 k1 k2 k3 H1 H2 H3 X1 X2 Y1 Y2
  -- the last region
  replace r0 := kkeep k03 r0
  replace r1 := kkeep k03 r1
  replace r2 := kkeep k03 r2
  replace f0 := (kfro k03 hlt).trans f0
  replace f1 := (kfro k03 hlt).trans f1
  replace f2 := (kfro k03 hlt).trans f2
  have hlt3 := cell_lt r0
  have kS : Kp wA w3 := HW.out.2.2.2.2.2.2.2.1.trans k03
  have kD : Kp wA w3.drew := kS.drew
  have hge : wA.heap.size ≤ (⟨B + 2, 0, none⟩ : Addr).block := by have := HW.out.2.2.2.2.1; have := HW.out.2.2.2.2.2.1; simp only; omega
  have HP : Hid (∀ W, Kp w3 W → Calls Tryz.prog 74 #[.slice p1 N1 c1, .slice p2 N2 c2] W fun e w' => ∃ p c, e = .returned (.slice p (dig (X + Y)).length c) ∧ Arr w' p (dig (X + Y)) ∧ (dig (X + Y)).length ≤ c ∧ Kp W w') := fun W kk => plusR _ _ X Y W (HS.out.1.kp kk) (HS.out.2.1.kp kk) (by have := HL.out; omega) (by have := HL.out; omega)
  have HFR : Hid (∀ (p : Option Addr) (c : Nat) (W : World), Kp w3 W → Arr W p (dig (X + Y)) → (dig (X + Y)).length ≤ c → Calls Tryz.prog 46 #[.bool sa, .slice p (dig (X + Y)).length c, .slice p3 N3 c3, .int .i64 0] W fun e w' => ∃ (vn vd : Value) (a' b' : Nat) (ng : Bool), e = .returned (.agg #[.bool ng, vn, vd]) ∧ Own w' W.heap.size vn (dig a') ∧ Own w' W.heap.size vd (dig b') ∧ (FracOf (X + Y) D 0 a' b' ∧ (X + Y ≠ 0 → ng = sa)) ∧ Kp W w') := by
    show ∀ (p : Option Addr) (c : Nat) (W : World), Kp w3 W → Arr W p (dig (X + Y)) → (dig (X + Y)).length ≤ c → Calls Tryz.prog 46 #[.bool sa, .slice p (dig (X + Y)).length c, .slice p3 N3 c3, .int .i64 0] W fun e w' => ∃ (vn vd : Value) (a' b' : Nat) (ng : Bool), e = .returned (.agg #[.bool ng, vn, vd]) ∧ Own w' W.heap.size vn (dig a') ∧ Own w' W.heap.size vd (dig b') ∧ (FracOf (X + Y) D 0 a' b' ∧ (X + Y ≠ 0 → ng = sa)) ∧ Kp W w'
    intro p c W kk ar ll
    obtain ⟨z, q1, q2, q3, q4⟩ := HL.out
    have g := frac_ sa (.slice p (dig (X + Y)).length c) (.slice p3 N3 c3) (dig (X + Y)) (dig D) 0 W ⟨p, c, rfl, ar, ll⟩ (HS.out.2.2.kp kk) (Wd_dig _) (Wd_dig _) (by change len32 _ ≤ _; omega) (by change len32 _ ≤ _; omega) (by rw [val_dig]; exact z) (by decide)
    rw [val_dig, val_dig] at g
    exact g
  obtain ⟨NX, hNX⟩ : ∃ N, N = (dig (X + Y)).length := ⟨_, rfl⟩
  rw [← hNX] at HP HFR
  clear hNX
  go_upto_region 5 with fail
  go_region_held3 (fun w' => w'.cell? ⟨B, 0, none⟩ = some (.bool sa)) ((refine kkeep (W := wA) ?_ x0; (repeat (first | with_reducible exact kB | with_reducible exact kA | with_reducible exact kD | with_reducible exact Kp.refl _ | with_reducible refine Kp.drew ?_ | refine Kp.setCell ?_ hge _)); done)) (first | (go_at_call 46; have hh := ar1; refine (HFR.out pp cc _ ?q1 ?q2 ll1).mono ?_; (case q1 => (repeat (first | with_reducible exact kk1 | with_reducible exact Kp.refl _ | with_reducible refine Kp.drew ?_)); done); (case q2 => exact ar1); rintro e v2 ⟨vn, vd, a', b', ng, rfl, o1, o2, ff, k12⟩; have kk2 : Kp w3 v2 := kk1.trans k12; have kB : Kp wA v2 := kS.trans kk2; obtain ⟨pn, cn, rfl, an, ln⟩ := o1.arr; obtain ⟨pd, cd, rfl, ad, ld⟩ := o2.arr; have R0 := kkeep kk2 r0; have R1 := kkeep kk2 r1; have R2 := kkeep kk2 r2; have F0 := (kfro kk2 hlt3).trans f0; have F1 := (kfro kk2 hlt3).trans f1; have F2 := (kfro kk2 hlt3).trans f2) | (go_at_call 74; refine (HP.out _ ?q3).mono ?_; (case q3 => (repeat (first | with_reducible exact Kp.refl _ | with_reducible refine Kp.drew ?_)); done); rintro e v1 ⟨pp, cc, rfl, ar1, ll1, k01⟩; have kk1 : Kp w3 v1 := Kp.trans ?q4 k01; (case q4 => (repeat (first | with_reducible exact Kp.refl _ | with_reducible refine Kp.drew ?_)); done); have kA : Kp wA v1 := kS.trans kk1))
  have hs1 := Below.size kk1
  obtain ⟨wz, hwz⟩ : ∃ wz, wz = ((v2.setCell ⟨B + 2, 0, none⟩ (.bool ng)).setCell ⟨B + 2, 1, none⟩ (.slice pn (dig a').length cn)).setCell ⟨B + 2, 2, none⟩ (.slice pd (dig b').length cd) := ⟨_, rfl⟩
  have kb : Kb (B + 2) v2 wz := by rw [hwz]; exact (((Kb.refl (B + 2) v2).setCell 0 _).setCell 1 _).setCell 2 _
  have O1 := o1.kb kb (fun g hg => by have := o1.lt g hg; omega)
  have O2 := o2.kb kb (fun g hg => by have := o2.lt g hg; omega)
  have hkw : Kp w wz := kb.kp ((HW.out.2.2.2.2.2.2.1.trans k03).trans kk2) (by rw [HW.out.2.2.2.1]; omega)
  have HO : Hid (Ls wz (.slice pn (dig a').length cn) (dig a') ∧ Ls wz (.slice pd (dig b').length cd) (dig b') ∧ (FracOf (X + Y) D 0 a' b' ∧ (X + Y ≠ 0 → ng = sa)) ∧ Kp w wz ∧ wz = ((v2.setCell ⟨B + 2, 0, none⟩ (.bool ng)).setCell ⟨B + 2, 1, none⟩ (.slice pn (dig a').length cn)).setCell ⟨B + 2, 2, none⟩ (.slice pd (dig b').length cd)) := ⟨O1.ls, O2.ls, ff, hkw, hwz⟩
  clear hs1 hwz kb O1 O2 hkw o1 o2 ff k12 kk2 kB an ln ad ld kk1 k01 kA ar1 ll1 HP HFR HS HL kS kD hge k03
  go_wp2
  obtain ⟨q1, q2, q3, q4, q5⟩ := HO.out
  rw [q5] at q1 q2 q4
  exact bodyPost_ret (v := .agg #[.bool ng, .slice pn (dig a').length cn, .slice pd (dig b').length cd]) (by simp [results, Tryz.results44, go_sem, R0, R1, R2]) rfl ⟨_, _, a', b', ng, rfl, q1, q2, q3, q4⟩
set_option maxRecDepth 20000 in
set_option maxHeartbeats 1000000 in
theorem raddGe_ (sa sb : Bool) (a1 a2 b1 b2 : Nat) (P1 P2 Q1 Q2 : Option Addr) (C1 C2 D1 D2 : Nat) (w : World) (h1 : Arr w P1 (dig a1)) (l1 : (dig a1).length ≤ C1) (h2 : Arr w P2 (dig a2)) (l2 : (dig a2).length ≤ C2) (h3 : Arr w Q1 (dig b1)) (l3 : (dig b1).length ≤ D1) (h4 : Arr w Q2 (dig b2)) (l4 : (dig b2).length ≤ D2) (k1 : len32 a1 ≤ 4000) (k2 : len32 a2 ≤ 4000) (k3 : len32 b1 ≤ 4000) (k4 : len32 b2 ≤ 4000) (z2 : a2 ≠ 0) (z4 : b2 ≠ 0) (X Y D : Nat) (hX : X = a1 * b2) (hY : Y = b1 * a2) (hD : D = a2 * b2) (lX : len32 X ≤ 16000) (lY : len32 Y ≤ 16000) (lD : len32 D ≤ 16000) (lS : len32 (X + Y) ≤ 16000) (hst : sa ≠ sb) (hle : Y ≤ X) :
    Calls Tryz.prog 44 #[.agg #[.bool sa, .slice P1 (dig a1).length C1, .slice P2 (dig a2).length C2], .agg #[.bool sb, .slice Q1 (dig b1).length D1, .slice Q2 (dig b2).length D2]] w fun e w' => ∃ (vn vd : Value) (a' b' : Nat) (ng : Bool), e = .returned (.agg #[.bool ng, vn, vd]) ∧ Ls w' vn (dig a') ∧ Ls w' vd (dig b') ∧ (FracOf (X - Y) D 0 a' b' ∧ (X - Y ≠ 0 → ng = sa)) ∧ Kp w w' := by
  have hz : D ≠ 0 := by rw [hD]; exact Nat.mul_ne_zero z2 z4
  obtain ⟨E1, g1⟩ : ∃ E, E = (dig a1).length := ⟨_, rfl⟩
  obtain ⟨E2, g2⟩ : ∃ E, E = (dig a2).length := ⟨_, rfl⟩
  obtain ⟨E3, g3⟩ : ∃ E, E = (dig b1).length := ⟨_, rfl⟩
  obtain ⟨E4, g4⟩ : ∃ E, E = (dig b2).length := ⟨_, rfl⟩
  rw [← g1, ← g2, ← g3, ← g4]
  obtain ⟨B, hB⟩ : ∃ B, B = w.heap.size := ⟨_, rfl⟩
  obtain ⟨wA, hwA⟩ : ∃ wA, wA = w.alloc (.cells #[.bool sa, .slice P1 E1 C1, .slice P2 E2 C2] 46) := ⟨_, rfl⟩
  obtain ⟨wB, hwB⟩ : ∃ wB, wB = wA.alloc (.cells #[.bool sb, .slice Q1 E3 D1, .slice Q2 E4 D2] 46) := ⟨_, rfl⟩
  obtain ⟨w0, hw0⟩ : ∃ w0, w0 = wB.alloc (.cells #[.bool false, .slice none 0 0, .slice none 0 0] 46) := ⟨_, rfl⟩
  have sA : wA.heap.size = B + 1 := by rw [hwA, hB]; simp
  have sB : wB.heap.size = B + 2 := by rw [hwB]; simp [sA]
  have x0 : wA.cell? ⟨B, 0, none⟩ = some (.bool sa) := by rw [hwA, hB]; simp [go_sem]
  have x1 : wA.cell? ⟨B, 1, none⟩ = some (.slice P1 E1 C1) := by rw [hwA, hB]; simp [go_sem]
  have x2 : wA.cell? ⟨B, 2, none⟩ = some (.slice P2 E2 C2) := by rw [hwA, hB]; simp [go_sem]
  have y0 : wB.cell? ⟨B + 1, 0, none⟩ = some (.bool sb) := by rw [hwB, ← sA]; simp [go_sem]
  have y1 : wB.cell? ⟨B + 1, 1, none⟩ = some (.slice Q1 E3 D1) := by rw [hwB, ← sA]; simp [go_sem]
  have y2 : wB.cell? ⟨B + 1, 2, none⟩ = some (.slice Q2 E4 D2) := by rw [hwB, ← sA]; simp [go_sem]
  have r0 : w0.cell? ⟨B + 2, 0, none⟩ = some (.bool false) := by rw [hw0, ← sB]; simp [go_sem]
  have r1 : w0.cell? ⟨B + 2, 1, none⟩ = some (.slice none 0 0) := by rw [hw0, ← sB]; simp [go_sem]
  have r2 : w0.cell? ⟨B + 2, 2, none⟩ = some (.slice none 0 0) := by rw [hw0, ← sB]; simp [go_sem]
  have f0 : w0.frozen? ⟨B + 2, 0, none⟩ = false := by rw [hw0, ← sB]; simp [go_sem]
  have f1 : w0.frozen? ⟨B + 2, 1, none⟩ = false := by rw [hw0, ← sB]; simp [go_sem]
  have f2 : w0.frozen? ⟨B + 2, 2, none⟩ = false := by rw [hw0, ← sB]; simp [go_sem]
  have kw : Kp w w0 := by rw [hw0, hwB, hwA]; exact (((Kp.refl w).alloc _).alloc _).alloc _
  have kAB : Kp wA wB := by rw [hwB]; exact (Kp.refl wA).alloc _
  have kB0 : Kp wB w0 := by rw [hw0]; exact (Kp.refl wB).alloc _
  have kA0 : Kp wA w0 := kAB.trans kB0
  have hlt := cell_lt r0
  -- the products
  have t1 := timesR (.slice P1 E1 C1) (.slice Q2 E4 D2) a1 b2 w0 ⟨P1, C1, by rw [g1], h1.grown kw, l1⟩ ⟨Q2, D2, by rw [g4], h4.grown kw, l4⟩ (by omega) (by omega)
  have t2 := fun w9 (k : Kp w0 w9) => timesR (.slice Q1 E3 D1) (.slice P2 E2 C2) b1 a2 w9 ⟨Q1, D1, by rw [g3], h3.grown (kw.trans k), l3⟩ ⟨P2, C2, by rw [g2], h2.grown (kw.trans k), l2⟩ (by omega) (by omega)
  have t3 := fun w9 (k : Kp w0 w9) => timesR (.slice P2 E2 C2) (.slice Q2 E4 D2) a2 b2 w9 ⟨P2, C2, by rw [g2], h2.grown (kw.trans k), l2⟩ ⟨Q2, D2, by rw [g4], h4.grown (kw.trans k), l4⟩ (by omega) (by omega)
  rw [← hX] at t1
  rw [← hY] at t2
  rw [← hD] at t3
  have HW : Hid (w0 = wB.alloc (.cells #[.bool false, .slice none 0 0, .slice none 0 0] 46) ∧ wB = wA.alloc (.cells #[.bool sb, .slice Q1 E3 D1, .slice Q2 E4 D2] 46) ∧ wA = w.alloc (.cells #[.bool sa, .slice P1 E1 C1, .slice P2 E2 C2] 46) ∧ B = w.heap.size ∧ wA.heap.size = B + 1 ∧ wB.heap.size = B + 2 ∧ Kp w w0 ∧ Kp wA w0 ∧ Kp wB w0) := ⟨hw0, hwB, hwA, hB, sA, sB, kw, kA0, kB0⟩
  have X0 := kkeep kA0 x0
  have X1 := kkeep kA0 x1
  have X2 := kkeep kA0 x2
  have Y0 := kkeep kB0 y0
  have Y1 := kkeep kB0 y1
  have Y2 := kkeep kB0 y2
  have HL : Hid (D ≠ 0 ∧ len32 X ≤ 16000 ∧ len32 Y ≤ 16000 ∧ len32 D ≤ 16000 ∧ len32 (X + Y) ≤ 16000) := ⟨hz, lX, lY, lD, lS⟩
  clear hw0 hwB hwA hB sA sB kw kAB kB0 kA0 h1 l1 h2 l2 h3 l3 h4 l4 k1 k2 k3 k4 z2 z4 hX hY hD hz lX lY lD lS g1 g2 g3 g4 x1 x2 y1 y2
  have est : (sa == sb) = false := by cases sa <;> cases sb <;> simp_all
  have est' : decide (sa = sb) = false := by simp [hst]
  clear hst
  have HG : Hid (Y ≤ X) := hle
  clear hle
  go_enter Tryz.func44, Tryz.ntmps44
  go_wp2_with fail
  rw [← HW.out.2.2.2.1]
  try rw [← HW.out.2.2.1]
  try rw [← HW.out.2.1]
  try rw [← HW.out.1]
  refine t1.mono ?_; rintro e w1 ⟨p1, c1, rfl, s1, m1, k1⟩
  obtain ⟨N1, hN1⟩ : ∃ N, N = (dig X).length := ⟨_, rfl⟩
  rw [← hN1]
  have H1 : Hid (N1 = (dig X).length) := hN1
  clear hN1
  replace X0 := kkeep k1 X0
  replace X2 := kkeep k1 X2
  replace Y0 := kkeep k1 Y0
  replace Y1 := kkeep k1 Y1
  replace Y2 := kkeep k1 Y2
  have t2' := t2 w1 k1
  clear t1 t2
  go_wp2_with fail
  refine t2'.mono ?_; rintro e w2 ⟨p2, c2, rfl, s2, m2, k2⟩
  obtain ⟨N2, hN2⟩ : ∃ N, N = (dig Y).length := ⟨_, rfl⟩
  rw [← hN2]
  have H2 : Hid (N2 = (dig Y).length) := hN2
  clear hN2
  replace X0 := kkeep k2 X0
  replace X2 := kkeep k2 X2
  replace Y0 := kkeep k2 Y0
  replace Y2 := kkeep k2 Y2
  have t3' := t3 w2 (k1.trans k2)
  clear t2' t3
  go_wp2_with fail
  refine t3'.mono ?_; rintro e w3 ⟨p3, c3, rfl, s3, m3, k3⟩
  obtain ⟨N3, hN3⟩ : ∃ N, N = (dig D).length := ⟨_, rfl⟩
  rw [← hN3]
  have H3 : Hid (N3 = (dig D).length) := hN3
  clear hN3
  replace X0 := kkeep k3 X0
  replace Y0 := kkeep k3 Y0
  have k03 := (k1.trans k2).trans k3
  have HS : Hid (Ls w3 (.slice p1 N1 c1) (dig X) ∧ Ls w3 (.slice p2 N2 c2) (dig Y) ∧ Ls w3 (.slice p3 N3 c3) (dig D)) := ⟨⟨p1, c1, by rw [H1.out], (s1.grown k2).grown k3, m1⟩, ⟨p2, c2, by rw [H2.out], s2.grown k3, m2⟩, ⟨p3, c3, by rw [H3.out], s3, m3⟩⟩
  clear t3' s1 s2 s3 m1 m2 m3 k1 k2 k3 H1 H2 H3 X1 X2 Y1 Y2
  have hcm := cmpR (.slice p1 N1 c1) (.slice p2 N2 c2) X Y w3 HS.out.1 HS.out.2.1 (by have := blen_len X 16000 HL.out.2.1; omega) (by have := blen_len Y 16000 HL.out.2.2.1; omega)
  obtain ⟨cv9, hcv9⟩ : ∃ cv9, cv9 = cmpN X Y := ⟨_, rfl⟩
  rw [← hcv9] at hcm
  have tcv : 0 ≤ cv9 := by
    rw [hcv9]; unfold cmpN; have := HG.out; rw [if_neg (by omega)]; split <;> omega
  clear hcv9
  go_wp2_with fail
  refine hcm.mono ?_; rintro e w4 ⟨rfl, k4⟩
  clear hcm
  replace X0 := kkeep k4 X0
  replace Y0 := kkeep k4 Y0
  replace HS : Hid (Ls w4 (.slice p1 N1 c1) (dig X) ∧ Ls w4 (.slice p2 N2 c2) (dig Y) ∧ Ls w4 (.slice p3 N3 c3) (dig D)) := ⟨HS.out.1.kp k4, HS.out.2.1.kp k4, HS.out.2.2.kp k4⟩
  replace k03 := k03.trans k4
  clear k4
  -- the last region
  replace r0 := kkeep k03 r0
  replace r1 := kkeep k03 r1
  replace r2 := kkeep k03 r2
  replace f0 := (kfro k03 hlt).trans f0
  replace f1 := (kfro k03 hlt).trans f1
  replace f2 := (kfro k03 hlt).trans f2
  have hlt3 := cell_lt r0
  have kS : Kp wA w4 := HW.out.2.2.2.2.2.2.2.1.trans k03
  have kD : Kp wA w4.drew := kS.drew
  have hge : wA.heap.size ≤ (⟨B + 2, 0, none⟩ : Addr).block := by have := HW.out.2.2.2.2.1; have := HW.out.2.2.2.2.2.1; simp only; omega
  have HP : Hid (∀ W, Kp w4 W → Calls Tryz.prog 75 #[.slice p1 N1 c1, .slice p2 N2 c2] W fun e w' => ∃ p c, e = .returned (.slice p (dig (X - Y)).length c) ∧ Arr w' p (dig (X - Y)) ∧ (dig (X - Y)).length ≤ c ∧ Kp W w') := fun W kk => minusR _ _ X Y W (HS.out.1.kp kk) (HS.out.2.1.kp kk) (by have := HL.out; omega) HG.out
  have HFR : Hid (∀ (p : Option Addr) (c : Nat) (W : World), Kp w4 W → Arr W p (dig (X - Y)) → (dig (X - Y)).length ≤ c → Calls Tryz.prog 46 #[.bool sa, .slice p (dig (X - Y)).length c, .slice p3 N3 c3, .int .i64 0] W fun e w' => ∃ (vn vd : Value) (a' b' : Nat) (ng : Bool), e = .returned (.agg #[.bool ng, vn, vd]) ∧ Own w' W.heap.size vn (dig a') ∧ Own w' W.heap.size vd (dig b') ∧ (FracOf (X - Y) D 0 a' b' ∧ (X - Y ≠ 0 → ng = sa)) ∧ Kp W w') := by
    show ∀ (p : Option Addr) (c : Nat) (W : World), Kp w4 W → Arr W p (dig (X - Y)) → (dig (X - Y)).length ≤ c → Calls Tryz.prog 46 #[.bool sa, .slice p (dig (X - Y)).length c, .slice p3 N3 c3, .int .i64 0] W fun e w' => ∃ (vn vd : Value) (a' b' : Nat) (ng : Bool), e = .returned (.agg #[.bool ng, vn, vd]) ∧ Own w' W.heap.size vn (dig a') ∧ Own w' W.heap.size vd (dig b') ∧ (FracOf (X - Y) D 0 a' b' ∧ (X - Y ≠ 0 → ng = sa)) ∧ Kp W w'
    intro p c W kk ar ll
    obtain ⟨z, q1, q2, q3, q4⟩ := HL.out
    have g := frac_ sa (.slice p (dig (X - Y)).length c) (.slice p3 N3 c3) (dig (X - Y)) (dig D) 0 W ⟨p, c, rfl, ar, ll⟩ (HS.out.2.2.kp kk) (Wd_dig _) (Wd_dig _) (by change len32 _ ≤ _; have := len32_mono (Nat.sub_le X Y); omega) (by change len32 _ ≤ _; omega) (by rw [val_dig]; exact z) (by decide)
    rw [val_dig, val_dig] at g
    exact g
  obtain ⟨NX, hNX⟩ : ∃ N, N = (dig (X - Y)).length := ⟨_, rfl⟩
  rw [← hNX] at HP HFR
  clear hNX
  go_upto_region 7 with fail
  go_region_held3 (fun w' => w'.cell? ⟨B, 0, none⟩ = some (.bool sa)) ((refine kkeep (W := wA) ?_ x0; (repeat (first | with_reducible exact kB | with_reducible exact kA | with_reducible exact kD | with_reducible exact Kp.refl _ | with_reducible refine Kp.drew ?_ | refine Kp.setCell ?_ hge _)); done)) (first | (go_at_call 46; have hh := ar1; refine (HFR.out pp cc _ ?q1 ?q2 ll1).mono ?_; (case q1 => (repeat (first | with_reducible exact kk1 | with_reducible exact Kp.refl _ | with_reducible refine Kp.drew ?_)); done); (case q2 => exact ar1); rintro e v2 ⟨vn, vd, a', b', ng, rfl, o1, o2, ff, k12⟩; have kk2 : Kp w4 v2 := kk1.trans k12; have kB : Kp wA v2 := kS.trans kk2; obtain ⟨pn, cn, rfl, an, ln⟩ := o1.arr; obtain ⟨pd, cd, rfl, ad, ld⟩ := o2.arr; have R0 := kkeep kk2 r0; have R1 := kkeep kk2 r1; have R2 := kkeep kk2 r2; have F0 := (kfro kk2 hlt3).trans f0; have F1 := (kfro kk2 hlt3).trans f1; have F2 := (kfro kk2 hlt3).trans f2) | (go_at_call 75; refine (HP.out _ ?q3).mono ?_; (case q3 => (repeat (first | with_reducible exact Kp.refl _ | with_reducible refine Kp.drew ?_)); done); rintro e v1 ⟨pp, cc, rfl, ar1, ll1, k01⟩; have kk1 : Kp w4 v1 := Kp.trans ?q4 k01; (case q4 => (repeat (first | with_reducible exact Kp.refl _ | with_reducible refine Kp.drew ?_)); done); have kA : Kp wA v1 := kS.trans kk1))
  have hs1 := Below.size kk1
  obtain ⟨wz, hwz⟩ : ∃ wz, wz = ((v2.setCell ⟨B + 2, 0, none⟩ (.bool ng)).setCell ⟨B + 2, 1, none⟩ (.slice pn (dig a').length cn)).setCell ⟨B + 2, 2, none⟩ (.slice pd (dig b').length cd) := ⟨_, rfl⟩
  have kb : Kb (B + 2) v2 wz := by rw [hwz]; exact (((Kb.refl (B + 2) v2).setCell 0 _).setCell 1 _).setCell 2 _
  have O1 := o1.kb kb (fun g hg => by have := o1.lt g hg; omega)
  have O2 := o2.kb kb (fun g hg => by have := o2.lt g hg; omega)
  have hkw : Kp w wz := kb.kp ((HW.out.2.2.2.2.2.2.1.trans k03).trans kk2) (by rw [HW.out.2.2.2.1]; omega)
  have HO : Hid (Ls wz (.slice pn (dig a').length cn) (dig a') ∧ Ls wz (.slice pd (dig b').length cd) (dig b') ∧ (FracOf (X - Y) D 0 a' b' ∧ (X - Y ≠ 0 → ng = sa)) ∧ Kp w wz ∧ wz = ((v2.setCell ⟨B + 2, 0, none⟩ (.bool ng)).setCell ⟨B + 2, 1, none⟩ (.slice pn (dig a').length cn)).setCell ⟨B + 2, 2, none⟩ (.slice pd (dig b').length cd)) := ⟨O1.ls, O2.ls, ff, hkw, hwz⟩
  clear hs1 hwz kb O1 O2 hkw o1 o2 ff k12 kk2 kB an ln ad ld kk1 k01 kA ar1 ll1 HP HFR HS HL kS kD hge k03
  go_wp2
  obtain ⟨q1, q2, q3, q4, q5⟩ := HO.out
  rw [q5] at q1 q2 q4
  exact bodyPost_ret (v := .agg #[.bool ng, .slice pn (dig a').length cn, .slice pd (dig b').length cd]) (by simp [results, Tryz.results44, go_sem, R0, R1, R2]) rfl ⟨_, _, a', b', ng, rfl, q1, q2, q3, q4⟩
set_option maxRecDepth 20000 in
set_option maxHeartbeats 1000000 in
theorem raddLt_ (sa sb : Bool) (a1 a2 b1 b2 : Nat) (P1 P2 Q1 Q2 : Option Addr) (C1 C2 D1 D2 : Nat) (w : World) (h1 : Arr w P1 (dig a1)) (l1 : (dig a1).length ≤ C1) (h2 : Arr w P2 (dig a2)) (l2 : (dig a2).length ≤ C2) (h3 : Arr w Q1 (dig b1)) (l3 : (dig b1).length ≤ D1) (h4 : Arr w Q2 (dig b2)) (l4 : (dig b2).length ≤ D2) (k1 : len32 a1 ≤ 4000) (k2 : len32 a2 ≤ 4000) (k3 : len32 b1 ≤ 4000) (k4 : len32 b2 ≤ 4000) (z2 : a2 ≠ 0) (z4 : b2 ≠ 0) (X Y D : Nat) (hX : X = a1 * b2) (hY : Y = b1 * a2) (hD : D = a2 * b2) (lX : len32 X ≤ 16000) (lY : len32 Y ≤ 16000) (lD : len32 D ≤ 16000) (lS : len32 (X + Y) ≤ 16000) (hst : sa ≠ sb) (hle : X < Y) :
    Calls Tryz.prog 44 #[.agg #[.bool sa, .slice P1 (dig a1).length C1, .slice P2 (dig a2).length C2], .agg #[.bool sb, .slice Q1 (dig b1).length D1, .slice Q2 (dig b2).length D2]] w fun e w' => ∃ (vn vd : Value) (a' b' : Nat) (ng : Bool), e = .returned (.agg #[.bool ng, vn, vd]) ∧ Ls w' vn (dig a') ∧ Ls w' vd (dig b') ∧ (FracOf (Y - X) D 0 a' b' ∧ (Y - X ≠ 0 → ng = sb)) ∧ Kp w w' := by
  have hz : D ≠ 0 := by rw [hD]; exact Nat.mul_ne_zero z2 z4
  obtain ⟨E1, g1⟩ : ∃ E, E = (dig a1).length := ⟨_, rfl⟩
  obtain ⟨E2, g2⟩ : ∃ E, E = (dig a2).length := ⟨_, rfl⟩
  obtain ⟨E3, g3⟩ : ∃ E, E = (dig b1).length := ⟨_, rfl⟩
  obtain ⟨E4, g4⟩ : ∃ E, E = (dig b2).length := ⟨_, rfl⟩
  rw [← g1, ← g2, ← g3, ← g4]
  obtain ⟨B, hB⟩ : ∃ B, B = w.heap.size := ⟨_, rfl⟩
  obtain ⟨wA, hwA⟩ : ∃ wA, wA = w.alloc (.cells #[.bool sa, .slice P1 E1 C1, .slice P2 E2 C2] 46) := ⟨_, rfl⟩
  obtain ⟨wB, hwB⟩ : ∃ wB, wB = wA.alloc (.cells #[.bool sb, .slice Q1 E3 D1, .slice Q2 E4 D2] 46) := ⟨_, rfl⟩
  obtain ⟨w0, hw0⟩ : ∃ w0, w0 = wB.alloc (.cells #[.bool false, .slice none 0 0, .slice none 0 0] 46) := ⟨_, rfl⟩
  have sA : wA.heap.size = B + 1 := by rw [hwA, hB]; simp
  have sB : wB.heap.size = B + 2 := by rw [hwB]; simp [sA]
  have x0 : wA.cell? ⟨B, 0, none⟩ = some (.bool sa) := by rw [hwA, hB]; simp [go_sem]
  have x1 : wA.cell? ⟨B, 1, none⟩ = some (.slice P1 E1 C1) := by rw [hwA, hB]; simp [go_sem]
  have x2 : wA.cell? ⟨B, 2, none⟩ = some (.slice P2 E2 C2) := by rw [hwA, hB]; simp [go_sem]
  have y0 : wB.cell? ⟨B + 1, 0, none⟩ = some (.bool sb) := by rw [hwB, ← sA]; simp [go_sem]
  have y1 : wB.cell? ⟨B + 1, 1, none⟩ = some (.slice Q1 E3 D1) := by rw [hwB, ← sA]; simp [go_sem]
  have y2 : wB.cell? ⟨B + 1, 2, none⟩ = some (.slice Q2 E4 D2) := by rw [hwB, ← sA]; simp [go_sem]
  have r0 : w0.cell? ⟨B + 2, 0, none⟩ = some (.bool false) := by rw [hw0, ← sB]; simp [go_sem]
  have r1 : w0.cell? ⟨B + 2, 1, none⟩ = some (.slice none 0 0) := by rw [hw0, ← sB]; simp [go_sem]
  have r2 : w0.cell? ⟨B + 2, 2, none⟩ = some (.slice none 0 0) := by rw [hw0, ← sB]; simp [go_sem]
  have f0 : w0.frozen? ⟨B + 2, 0, none⟩ = false := by rw [hw0, ← sB]; simp [go_sem]
  have f1 : w0.frozen? ⟨B + 2, 1, none⟩ = false := by rw [hw0, ← sB]; simp [go_sem]
  have f2 : w0.frozen? ⟨B + 2, 2, none⟩ = false := by rw [hw0, ← sB]; simp [go_sem]
  have kw : Kp w w0 := by rw [hw0, hwB, hwA]; exact (((Kp.refl w).alloc _).alloc _).alloc _
  have kAB : Kp wA wB := by rw [hwB]; exact (Kp.refl wA).alloc _
  have kB0 : Kp wB w0 := by rw [hw0]; exact (Kp.refl wB).alloc _
  have kA0 : Kp wA w0 := kAB.trans kB0
  have hlt := cell_lt r0
  -- the products
  have t1 := timesR (.slice P1 E1 C1) (.slice Q2 E4 D2) a1 b2 w0 ⟨P1, C1, by rw [g1], h1.grown kw, l1⟩ ⟨Q2, D2, by rw [g4], h4.grown kw, l4⟩ (by omega) (by omega)
  have t2 := fun w9 (k : Kp w0 w9) => timesR (.slice Q1 E3 D1) (.slice P2 E2 C2) b1 a2 w9 ⟨Q1, D1, by rw [g3], h3.grown (kw.trans k), l3⟩ ⟨P2, C2, by rw [g2], h2.grown (kw.trans k), l2⟩ (by omega) (by omega)
  have t3 := fun w9 (k : Kp w0 w9) => timesR (.slice P2 E2 C2) (.slice Q2 E4 D2) a2 b2 w9 ⟨P2, C2, by rw [g2], h2.grown (kw.trans k), l2⟩ ⟨Q2, D2, by rw [g4], h4.grown (kw.trans k), l4⟩ (by omega) (by omega)
  rw [← hX] at t1
  rw [← hY] at t2
  rw [← hD] at t3
  have HW : Hid (w0 = wB.alloc (.cells #[.bool false, .slice none 0 0, .slice none 0 0] 46) ∧ wB = wA.alloc (.cells #[.bool sb, .slice Q1 E3 D1, .slice Q2 E4 D2] 46) ∧ wA = w.alloc (.cells #[.bool sa, .slice P1 E1 C1, .slice P2 E2 C2] 46) ∧ B = w.heap.size ∧ wA.heap.size = B + 1 ∧ wB.heap.size = B + 2 ∧ Kp w w0 ∧ Kp wA w0 ∧ Kp wB w0) := ⟨hw0, hwB, hwA, hB, sA, sB, kw, kA0, kB0⟩
  have X0 := kkeep kA0 x0
  have X1 := kkeep kA0 x1
  have X2 := kkeep kA0 x2
  have Y0 := kkeep kB0 y0
  have Y1 := kkeep kB0 y1
  have Y2 := kkeep kB0 y2
  have HL : Hid (D ≠ 0 ∧ len32 X ≤ 16000 ∧ len32 Y ≤ 16000 ∧ len32 D ≤ 16000 ∧ len32 (X + Y) ≤ 16000) := ⟨hz, lX, lY, lD, lS⟩
  clear hw0 hwB hwA hB sA sB kw kAB kB0 kA0 h1 l1 h2 l2 h3 l3 h4 l4 k1 k2 k3 k4 z2 z4 hX hY hD hz lX lY lD lS g1 g2 g3 g4 x1 x2 y1 y2
  have est : (sa == sb) = false := by cases sa <;> cases sb <;> simp_all
  have est' : decide (sa = sb) = false := by simp [hst]
  clear hst
  have HG : Hid (X < Y) := hle
  clear hle
  go_enter Tryz.func44, Tryz.ntmps44
  go_wp2_with fail
  rw [← HW.out.2.2.2.1]
  try rw [← HW.out.2.2.1]
  try rw [← HW.out.2.1]
  try rw [← HW.out.1]
  refine t1.mono ?_; rintro e w1 ⟨p1, c1, rfl, s1, m1, k1⟩
  obtain ⟨N1, hN1⟩ : ∃ N, N = (dig X).length := ⟨_, rfl⟩
  rw [← hN1]
  have H1 : Hid (N1 = (dig X).length) := hN1
  clear hN1
  replace X0 := kkeep k1 X0
  replace X2 := kkeep k1 X2
  replace Y0 := kkeep k1 Y0
  replace Y1 := kkeep k1 Y1
  replace Y2 := kkeep k1 Y2
  have t2' := t2 w1 k1
  clear t1 t2
  go_wp2_with fail
  refine t2'.mono ?_; rintro e w2 ⟨p2, c2, rfl, s2, m2, k2⟩
  obtain ⟨N2, hN2⟩ : ∃ N, N = (dig Y).length := ⟨_, rfl⟩
  rw [← hN2]
  have H2 : Hid (N2 = (dig Y).length) := hN2
  clear hN2
  replace X0 := kkeep k2 X0
  replace X2 := kkeep k2 X2
  replace Y0 := kkeep k2 Y0
  replace Y2 := kkeep k2 Y2
  have t3' := t3 w2 (k1.trans k2)
  clear t2' t3
  go_wp2_with fail
  refine t3'.mono ?_; rintro e w3 ⟨p3, c3, rfl, s3, m3, k3⟩
  obtain ⟨N3, hN3⟩ : ∃ N, N = (dig D).length := ⟨_, rfl⟩
  rw [← hN3]
  have H3 : Hid (N3 = (dig D).length) := hN3
  clear hN3
  replace X0 := kkeep k3 X0
  replace Y0 := kkeep k3 Y0
  have k03 := (k1.trans k2).trans k3
  have HS : Hid (Ls w3 (.slice p1 N1 c1) (dig X) ∧ Ls w3 (.slice p2 N2 c2) (dig Y) ∧ Ls w3 (.slice p3 N3 c3) (dig D)) := ⟨⟨p1, c1, by rw [H1.out], (s1.grown k2).grown k3, m1⟩, ⟨p2, c2, by rw [H2.out], s2.grown k3, m2⟩, ⟨p3, c3, by rw [H3.out], s3, m3⟩⟩
  clear t3' s1 s2 s3 m1 m2 m3 k1 k2 k3 H1 H2 H3 X1 X2 Y1 Y2
  have hcm := cmpR (.slice p1 N1 c1) (.slice p2 N2 c2) X Y w3 HS.out.1 HS.out.2.1 (by have := blen_len X 16000 HL.out.2.1; omega) (by have := blen_len Y 16000 HL.out.2.2.1; omega)
  obtain ⟨cv9, hcv9⟩ : ∃ cv9, cv9 = cmpN X Y := ⟨_, rfl⟩
  rw [← hcv9] at hcm
  have tcv : ¬ 0 ≤ cv9 := by
    rw [hcv9]; unfold cmpN; rw [if_pos HG.out]; decide
  clear hcv9
  go_wp2_with fail
  refine hcm.mono ?_; rintro e w4 ⟨rfl, k4⟩
  clear hcm
  replace X0 := kkeep k4 X0
  replace Y0 := kkeep k4 Y0
  replace HS : Hid (Ls w4 (.slice p1 N1 c1) (dig X) ∧ Ls w4 (.slice p2 N2 c2) (dig Y) ∧ Ls w4 (.slice p3 N3 c3) (dig D)) := ⟨HS.out.1.kp k4, HS.out.2.1.kp k4, HS.out.2.2.kp k4⟩
  replace k03 := k03.trans k4
  clear k4
  -- the last region
  replace r0 := kkeep k03 r0
  replace r1 := kkeep k03 r1
  replace r2 := kkeep k03 r2
  replace f0 := (kfro k03 hlt).trans f0
  replace f1 := (kfro k03 hlt).trans f1
  replace f2 := (kfro k03 hlt).trans f2
  have hlt3 := cell_lt r0
  have kS : Kp wB w4 := HW.out.2.2.2.2.2.2.2.2.trans k03
  have kD : Kp wB w4.drew := kS.drew
  have hge : wB.heap.size ≤ (⟨B + 2, 0, none⟩ : Addr).block := by have := HW.out.2.2.2.2.1; have := HW.out.2.2.2.2.2.1; simp only; omega
  have HP : Hid (∀ W, Kp w4 W → Calls Tryz.prog 75 #[.slice p2 N2 c2, .slice p1 N1 c1] W fun e w' => ∃ p c, e = .returned (.slice p (dig (Y - X)).length c) ∧ Arr w' p (dig (Y - X)) ∧ (dig (Y - X)).length ≤ c ∧ Kp W w') := fun W kk => minusR _ _ Y X W (HS.out.2.1.kp kk) (HS.out.1.kp kk) (by have := HL.out; omega) (Nat.le_of_lt HG.out)
  have HFR : Hid (∀ (p : Option Addr) (c : Nat) (W : World), Kp w4 W → Arr W p (dig (Y - X)) → (dig (Y - X)).length ≤ c → Calls Tryz.prog 46 #[.bool sb, .slice p (dig (Y - X)).length c, .slice p3 N3 c3, .int .i64 0] W fun e w' => ∃ (vn vd : Value) (a' b' : Nat) (ng : Bool), e = .returned (.agg #[.bool ng, vn, vd]) ∧ Own w' W.heap.size vn (dig a') ∧ Own w' W.heap.size vd (dig b') ∧ (FracOf (Y - X) D 0 a' b' ∧ (Y - X ≠ 0 → ng = sb)) ∧ Kp W w') := by
    show ∀ (p : Option Addr) (c : Nat) (W : World), Kp w4 W → Arr W p (dig (Y - X)) → (dig (Y - X)).length ≤ c → Calls Tryz.prog 46 #[.bool sb, .slice p (dig (Y - X)).length c, .slice p3 N3 c3, .int .i64 0] W fun e w' => ∃ (vn vd : Value) (a' b' : Nat) (ng : Bool), e = .returned (.agg #[.bool ng, vn, vd]) ∧ Own w' W.heap.size vn (dig a') ∧ Own w' W.heap.size vd (dig b') ∧ (FracOf (Y - X) D 0 a' b' ∧ (Y - X ≠ 0 → ng = sb)) ∧ Kp W w'
    intro p c W kk ar ll
    obtain ⟨z, q1, q2, q3, q4⟩ := HL.out
    have g := frac_ sb (.slice p (dig (Y - X)).length c) (.slice p3 N3 c3) (dig (Y - X)) (dig D) 0 W ⟨p, c, rfl, ar, ll⟩ (HS.out.2.2.kp kk) (Wd_dig _) (Wd_dig _) (by change len32 _ ≤ _; have := len32_mono (Nat.sub_le Y X); omega) (by change len32 _ ≤ _; omega) (by rw [val_dig]; exact z) (by decide)
    rw [val_dig, val_dig] at g
    exact g
  obtain ⟨NX, hNX⟩ : ∃ N, N = (dig (Y - X)).length := ⟨_, rfl⟩
  rw [← hNX] at HP HFR
  clear hNX
  go_upto_region 8 with fail
  go_region_held3 (fun w' => w'.cell? ⟨B + 1, 0, none⟩ = some (.bool sb)) ((refine kkeep (W := wB) ?_ y0; (repeat (first | with_reducible exact kB | with_reducible exact kA | with_reducible exact kD | with_reducible exact Kp.refl _ | with_reducible refine Kp.drew ?_ | refine Kp.setCell ?_ hge _)); done)) (first | (go_at_call 46; have hh := ar1; refine (HFR.out pp cc _ ?q1 ?q2 ll1).mono ?_; (case q1 => (repeat (first | with_reducible exact kk1 | with_reducible exact Kp.refl _ | with_reducible refine Kp.drew ?_)); done); (case q2 => exact ar1); rintro e v2 ⟨vn, vd, a', b', ng, rfl, o1, o2, ff, k12⟩; have kk2 : Kp w4 v2 := kk1.trans k12; have kB : Kp wB v2 := kS.trans kk2; obtain ⟨pn, cn, rfl, an, ln⟩ := o1.arr; obtain ⟨pd, cd, rfl, ad, ld⟩ := o2.arr; have R0 := kkeep kk2 r0; have R1 := kkeep kk2 r1; have R2 := kkeep kk2 r2; have F0 := (kfro kk2 hlt3).trans f0; have F1 := (kfro kk2 hlt3).trans f1; have F2 := (kfro kk2 hlt3).trans f2) | (go_at_call 75; refine (HP.out _ ?q3).mono ?_; (case q3 => (repeat (first | with_reducible exact Kp.refl _ | with_reducible refine Kp.drew ?_)); done); rintro e v1 ⟨pp, cc, rfl, ar1, ll1, k01⟩; have kk1 : Kp w4 v1 := Kp.trans ?q4 k01; (case q4 => (repeat (first | with_reducible exact Kp.refl _ | with_reducible refine Kp.drew ?_)); done); have kA : Kp wB v1 := kS.trans kk1))
  have hs1 := Below.size kk1
  obtain ⟨wz, hwz⟩ : ∃ wz, wz = ((v2.setCell ⟨B + 2, 0, none⟩ (.bool ng)).setCell ⟨B + 2, 1, none⟩ (.slice pn (dig a').length cn)).setCell ⟨B + 2, 2, none⟩ (.slice pd (dig b').length cd) := ⟨_, rfl⟩
  have kb : Kb (B + 2) v2 wz := by rw [hwz]; exact (((Kb.refl (B + 2) v2).setCell 0 _).setCell 1 _).setCell 2 _
  have O1 := o1.kb kb (fun g hg => by have := o1.lt g hg; omega)
  have O2 := o2.kb kb (fun g hg => by have := o2.lt g hg; omega)
  have hkw : Kp w wz := kb.kp ((HW.out.2.2.2.2.2.2.1.trans k03).trans kk2) (by rw [HW.out.2.2.2.1]; omega)
  have HO : Hid (Ls wz (.slice pn (dig a').length cn) (dig a') ∧ Ls wz (.slice pd (dig b').length cd) (dig b') ∧ (FracOf (Y - X) D 0 a' b' ∧ (Y - X ≠ 0 → ng = sb)) ∧ Kp w wz ∧ wz = ((v2.setCell ⟨B + 2, 0, none⟩ (.bool ng)).setCell ⟨B + 2, 1, none⟩ (.slice pn (dig a').length cn)).setCell ⟨B + 2, 2, none⟩ (.slice pd (dig b').length cd)) := ⟨O1.ls, O2.ls, ff, hkw, hwz⟩
  clear hs1 hwz kb O1 O2 hkw o1 o2 ff k12 kk2 kB an ln ad ld kk1 k01 kA ar1 ll1 HP HFR HS HL kS kD hge k03
  go_wp2
  obtain ⟨q1, q2, q3, q4, q5⟩ := HO.out
  rw [q5] at q1 q2 q4
  exact bodyPost_ret (v := .agg #[.bool ng, .slice pn (dig a').length cn, .slice pd (dig b').length cd]) (by simp [results, Tryz.results44, go_sem, R0, R1, R2]) rfl ⟨_, _, a', b', ng, rfl, q1, q2, q3, q4⟩
set_option maxRecDepth 20000 in
set_option maxHeartbeats 400000 in
theorem fromV_ (n : Bool) (m : Nat) (hm : m < 9218868437227405312) (K : Nat) (hK : K = 1074) (w : World) : Calls Tryz.prog 25 #[.int .u64 ((Fq.wD n m : Nat) : Int)] w fun e w' => ∃ (p q : Option Addr) (c d a b : Nat) (s : Bool), e = .returned (.agg #[.bool s, .slice p (dig a).length c, .slice q (dig b).length d]) ∧ Arr w' p (dig a) ∧ (dig a).length ≤ c ∧ Arr w' q (dig b) ∧ (dig b).length ≤ d ∧ (b ≠ 0 ∧ a * 2 ^ K = Fq.vV Ieee.double m * b ∧ Iv n m = (if s then -((Fq.vV Ieee.double m : Nat) : Int) else ((Fq.vV Ieee.double m : Nat) : Int)) ∧ blen a ≤ 1500 ∧ blen b ≤ 1500) ∧ Kp w w' := by
  have h := fromBits_ n m hm w
  refine Calls.mono (show Calls Tryz.prog 25 #[.int .u64 ((Fq.wD n m : Nat) : Int)] w _ from h) ?_
  rintro e w' ⟨vn, vd, a, b, s, rfl, o1, o2, ⟨hF, hs⟩, k⟩
  obtain ⟨p, c, rfl, a1, l1⟩ := o1.arr
  obtain ⟨q, d, rfl, a2, l2⟩ := o2.arr
  obtain ⟨v1, v2, v3, v4, v5⟩ := Fq.vlsgD m hm
  have hF' : FracOf (Fq.sgD m) 1 (Fq.epD m) a b := hF
  have hs' : Fq.sgD m ≠ 0 → s = n := hs
  have hval : Fq.vV Ieee.double m = Fq.sgD m * 2 ^ (Fq.epD m + 1074).toNat := v1.symm
  refine ⟨p, q, c, d, a, b, s, rfl, a1, l1, a2, l2, ⟨hF'.1, ?_, ?_, ?_, ?_⟩, k⟩
  · by_cases c0 : Fq.sgD m = 0
    · rw [hval, c0, hF'.2.1.2 c0]; simp
    · rw [hval]
      exact frac_exact (Fq.sgD m) (Fq.epD m) a b K (Fq.epD m + 1074).toNat hF' c0 (by omega)
  · unfold Iv
    by_cases c0 : Fq.sgD m = 0
    · have : Fq.vV Ieee.double m = 0 := by rw [hval, c0]; simp
      rw [this]; cases n <;> cases s <;> simp
    · rw [hs' c0]
  · have h1 := hF'.2.2.2.1
    have h2 : blen (Fq.sgD m) ≤ 53 := by rw [blen_le_iff, show (2 : Nat) ^ 53 = 9007199254740992 from by decide]; exact v2
    omega
  · have h1 := hF'.2.2.2.2
    have h2 : blen 1 = 1 := blen_uniq 1 0 (by decide) (by decide)
    omega
set_option maxRecDepth 20000 in
set_option maxHeartbeats 400000 in
theorem raddV_ (d : Int) (n n' : Bool) (m m' : Nat) (K : Nat) (hK : K = 1074) (sa sb : Bool) (a1 a2 b1 b2 : Nat) (P1 P2 Q1 Q2 : Option Addr) (C1 C2 D1 D2 : Nat) (w : World) (h1 : Arr w P1 (dig a1)) (l1 : (dig a1).length ≤ C1) (h2 : Arr w P2 (dig a2)) (l2 : (dig a2).length ≤ C2) (h3 : Arr w Q1 (dig b1)) (l3 : (dig b1).length ≤ D1) (h4 : Arr w Q2 (dig b2)) (l4 : (dig b2).length ≤ D2) (ha : a2 ≠ 0 ∧ a1 * 2 ^ K = Fq.vV Ieee.double m * a2 ∧ Iv n m = (if sa then -((Fq.vV Ieee.double m : Nat) : Int) else ((Fq.vV Ieee.double m : Nat) : Int)) ∧ blen a1 ≤ 1500 ∧ blen a2 ≤ 1500) (hb : b2 ≠ 0 ∧ b1 * 2 ^ K = Fq.vV Ieee.double m' * b2 ∧ Iv n' m' = (if sb then -((Fq.vV Ieee.double m' : Nat) : Int) else ((Fq.vV Ieee.double m' : Nat) : Int)) ∧ blen b1 ≤ 1500 ∧ blen b2 ≤ 1500) :
    Calls Tryz.prog 44 #[.agg #[.bool sa, .slice P1 (dig a1).length C1, .slice P2 (dig a2).length C2], .agg #[.bool sb, .slice Q1 (dig b1).length D1, .slice Q2 (dig b2).length D2]] w fun e w' => ∃ (vn vd : Value) (a' b' : Nat) (ng : Bool), e = .returned (.agg #[.bool ng, vn, vd]) ∧ Ls w' vn (dig a') ∧ Ls w' vd (dig b') ∧ (refW 53 1074 2098 9218868437227405311 0 d ng a' b' = sumW d (Iv n m + Iv n' m') ∧ b' ≠ 0 ∧ blen a' ≤ 4194304 ∧ blen b' ≤ 4194304) ∧ Kp w w' := by
  obtain ⟨za, ea, ia, ba1, ba2⟩ := ha
  obtain ⟨zb, eb, ib, bb1, bb2⟩ := hb
  obtain ⟨X, hX⟩ : ∃ X, X = a1 * b2 := ⟨_, rfl⟩
  obtain ⟨Y, hY⟩ : ∃ Y, Y = b1 * a2 := ⟨_, rfl⟩
  obtain ⟨D, hD⟩ : ∃ D, D = a2 * b2 := ⟨_, rfl⟩
  obtain ⟨va, hva⟩ : ∃ va, va = Fq.vV Ieee.double m := ⟨_, rfl⟩
  obtain ⟨vb, hvb⟩ : ∃ vb, vb = Fq.vV Ieee.double m' := ⟨_, rfl⟩
  rw [← hva] at ea ia
  rw [← hvb] at eb ib
  have hzD : D ≠ 0 := by rw [hD]; exact Nat.mul_ne_zero za zb
  have eX : X * 2 ^ K = va * D := by rw [hX, hD, Nat.mul_right_comm, ea, Nat.mul_assoc]
  have eY : Y * 2 ^ K = vb * D := by rw [hY, hD, Nat.mul_right_comm, eb, Nat.mul_assoc, Nat.mul_comm b2 a2]
  have bl : ∀ u v : Nat, blen u ≤ 1500 → blen v ≤ 1500 → blen (u * v) ≤ 3000 := fun u v h1 h2 => by
    obtain ⟨T5, hT5⟩ : ∃ T5 : Nat, T5 = 1500 := ⟨_, rfl⟩
    have g : blen (u * v) ≤ T5 + T5 := by
      rw [blen_le_iff, Nat.pow_add]
      exact Nat.mul_lt_mul'' ((blen_le_iff u T5).1 (by omega)) ((blen_le_iff v T5).1 (by omega))
    omega
  have bX : blen X ≤ 3000 := by rw [hX]; exact bl _ _ ba1 bb2
  have bY : blen Y ≤ 3000 := by rw [hY]; exact bl _ _ bb1 ba2
  have bD : blen D ≤ 3000 := by rw [hD]; exact bl _ _ ba2 bb2
  obtain ⟨T9, hT9⟩ : ∃ T9 : Nat, T9 = 3000 := ⟨_, rfl⟩
  have bS : ∀ c, c ≤ X + Y → blen c ≤ T9 + 1 := fun c hc => by
    have g1 := (blen_le_iff X T9).1 (by omega)
    have g2 := (blen_le_iff Y T9).1 (by omega)
    rw [blen_le_iff, Nat.pow_succ]; omega
  have lX : len32 X ≤ 16000 := dlen X 16000 (by omega)
  have lY : len32 Y ≤ 16000 := dlen Y 16000 (by omega)
  have lD : len32 D ≤ 16000 := dlen D 16000 (by omega)
  have lS : len32 (X + Y) ≤ 16000 := dlen (X + Y) 16000 (by have := bS (X + Y) (Nat.le_refl _); omega)
  have k1 : len32 a1 ≤ 4000 := dlen a1 4000 (by omega)
  have k2 : len32 a2 ≤ 4000 := dlen a2 4000 (by omega)
  have k3 : len32 b1 ≤ 4000 := dlen b1 4000 (by omega)
  have k4 : len32 b2 ≤ 4000 := dlen b2 4000 (by omega)
  have fin : ∀ (x : Nat) (neg : Bool) (a' b' : Nat) (ng : Bool), x ≤ X + Y → x * 2 ^ K = (Iv n m + Iv n' m').natAbs * D → (Iv n m + Iv n' m' ≠ 0 → neg = decide (Iv n m + Iv n' m' < 0)) → (FracOf x D 0 a' b' ∧ (x ≠ 0 → ng = neg)) → (refW 53 1074 2098 9218868437227405311 0 d ng a' b' = sumW d (Iv n m + Iv n' m') ∧ b' ≠ 0 ∧ blen a' ≤ 4194304 ∧ blen b' ≤ 4194304) := fun x neg a' b' ng hx hv hn hF => by
    refine ⟨ratio_sum d _ x D a' b' K neg hK hzD hF.1 hv ng hF.2 hn, hF.1.1, ?_, ?_⟩
    · have g1 := hF.1.2.2.2.1; have g2 := bS x hx; simp at g1; omega
    · have g1 := hF.1.2.2.2.2; simp at g1; omega
  by_cases c1 : sa = sb
  · refine (raddEq_ sa sb a1 a2 b1 b2 P1 P2 Q1 Q2 C1 C2 D1 D2 w h1 l1 h2 l2 h3 l3 h4 l4 k1 k2 k3 k4 za zb X Y D hX hY hD lX lY lD lS c1).mono ?_
    rintro e w' ⟨vn, vd, a', b', ng, he, q1, q2, q3, q4⟩
    refine ⟨vn, vd, a', b', ng, he, q1, q2, fin (X + Y) sa a' b' ng (Nat.le_refl _) ?_ ?_ q3, q4⟩
    · have : (Iv n m + Iv n' m').natAbs = va + vb := by rw [ia, ib, ← c1]; cases sa <;> simp <;> omega
      rw [this, Nat.add_mul, Nat.add_mul, eX, eY]
    · intro hne
      rw [ia, ib, ← c1] at hne ⊢
      cases sa <;> simp at hne ⊢ <;> omega
  · have hcmp : Y ≤ X ↔ vb ≤ va := by
      have hp := Nat.two_pow_pos K
      constructor
      · intro h
        have g := Nat.mul_le_mul_right (2 ^ K) h
        rw [eX, eY] at g
        exact Nat.le_of_mul_le_mul_right g (by omega)
      · intro h
        have g := Nat.mul_le_mul_right D h
        rw [← eX, ← eY] at g
        exact Nat.le_of_mul_le_mul_right g hp
    by_cases c2 : Y ≤ X
    · have hv := hcmp.1 c2
      refine (raddGe_ sa sb a1 a2 b1 b2 P1 P2 Q1 Q2 C1 C2 D1 D2 w h1 l1 h2 l2 h3 l3 h4 l4 k1 k2 k3 k4 za zb X Y D hX hY hD lX lY lD lS c1 c2).mono ?_
      rintro e w' ⟨vn, vd, a', b', ng, he, q1, q2, q3, q4⟩
      refine ⟨vn, vd, a', b', ng, he, q1, q2, fin (X - Y) sa a' b' ng (by omega) ?_ ?_ q3, q4⟩
      · have : (Iv n m + Iv n' m').natAbs = va - vb := by rw [ia, ib]; cases sa <;> cases sb <;> simp at c1 ⊢ <;> omega
        rw [this, Nat.sub_mul, Nat.sub_mul, eX, eY]
      · intro hne
        rw [ia, ib] at hne ⊢
        cases sa <;> cases sb <;> simp at c1 hne ⊢ <;> omega
    · have hv : va < vb := by
        rcases Nat.lt_or_ge va vb with h | h
        · exact h
        · exact absurd (hcmp.2 h) c2
      refine (raddLt_ sa sb a1 a2 b1 b2 P1 P2 Q1 Q2 C1 C2 D1 D2 w h1 l1 h2 l2 h3 l3 h4 l4 k1 k2 k3 k4 za zb X Y D hX hY hD lX lY lD lS c1 (by omega)).mono ?_
      rintro e w' ⟨vn, vd, a', b', ng, he, q1, q2, q3, q4⟩
      refine ⟨vn, vd, a', b', ng, he, q1, q2, fin (Y - X) sb a' b' ng (by omega) ?_ ?_ q3, q4⟩
      · have : (Iv n m + Iv n' m').natAbs = vb - va := by rw [ia, ib]; cases sa <;> cases sb <;> simp at c1 ⊢ <;> omega
        rw [this, Nat.sub_mul, Nat.sub_mul, eX, eY]
      · intro hne
        rw [ia, ib] at hne ⊢
        cases sa <;> cases sb <;> simp at c1 hne ⊢ <;> omega
set_option maxRecDepth 20000 in
set_option maxHeartbeats 1000000 in
theorem raddEqO_ (sa sb : Bool) (a1 a2 b1 b2 : Nat) (P1 P2 Q1 Q2 : Option Addr) (C1 C2 D1 D2 : Nat) (w : World) (h1 : Arr w P1 (dig a1)) (l1 : (dig a1).length ≤ C1) (h2 : Arr w P2 (dig a2)) (l2 : (dig a2).length ≤ C2) (h3 : Arr w Q1 (dig b1)) (l3 : (dig b1).length ≤ D1) (h4 : Arr w Q2 (dig b2)) (l4 : (dig b2).length ≤ D2) (k1 : len32 a1 ≤ 4000) (k2 : len32 a2 ≤ 4000) (k3 : len32 b1 ≤ 4000) (k4 : len32 b2 ≤ 4000) (z2 : a2 ≠ 0) (z4 : b2 ≠ 0) (X Y D : Nat) (hX : X = a1 * b2) (hY : Y = b1 * a2) (hD : D = a2 * b2) (lX : len32 X ≤ 16000) (lY : len32 Y ≤ 16000) (lD : len32 D ≤ 16000) (lS : len32 (X + Y) ≤ 16000) (hst : sa = sb) :
    Calls Tryz.prog 44 #[.agg #[.bool sa, .slice P1 (dig a1).length C1, .slice P2 (dig a2).length C2], .agg #[.bool sb, .slice Q1 (dig b1).length D1, .slice Q2 (dig b2).length D2]] w fun e w' => ∃ (vn vd : Value) (a' b' : Nat) (ng : Bool), e = .returned (.agg #[.bool ng, vn, vd]) ∧ Own w' w.heap.size vn (dig a') ∧ Own w' w.heap.size vd (dig b') ∧ (FracOf (X + Y) D 0 a' b' ∧ (X + Y ≠ 0 → ng = sa)) ∧ Kp w w' := by
  have hz : D ≠ 0 := by rw [hD]; exact Nat.mul_ne_zero z2 z4
  obtain ⟨E1, g1⟩ : ∃ E, E = (dig a1).length := ⟨_, rfl⟩
  obtain ⟨E2, g2⟩ : ∃ E, E = (dig a2).length := ⟨_, rfl⟩
  obtain ⟨E3, g3⟩ : ∃ E, E = (dig b1).length := ⟨_, rfl⟩
  obtain ⟨E4, g4⟩ : ∃ E, E = (dig b2).length := ⟨_, rfl⟩
  rw [← g1, ← g2, ← g3, ← g4]
  obtain ⟨B, hB⟩ : ∃ B, B = w.heap.size := ⟨_, rfl⟩
  obtain ⟨wA, hwA⟩ : ∃ wA, wA = w.alloc (.cells #[.bool sa, .slice P1 E1 C1, .slice P2 E2 C2] 46) := ⟨_, rfl⟩
  obtain ⟨wB, hwB⟩ : ∃ wB, wB = wA.alloc (.cells #[.bool sb, .slice Q1 E3 D1, .slice Q2 E4 D2] 46) := ⟨_, rfl⟩
  obtain ⟨w0, hw0⟩ : ∃ w0, w0 = wB.alloc (.cells #[.bool false, .slice none 0 0, .slice none 0 0] 46) := ⟨_, rfl⟩
  have sA : wA.heap.size = B + 1 := by rw [hwA, hB]; simp
  have sB : wB.heap.size = B + 2 := by rw [hwB]; simp [sA]
  have x0 : wA.cell? ⟨B, 0, none⟩ = some (.bool sa) := by rw [hwA, hB]; simp [go_sem]
  have x1 : wA.cell? ⟨B, 1, none⟩ = some (.slice P1 E1 C1) := by rw [hwA, hB]; simp [go_sem]
  have x2 : wA.cell? ⟨B, 2, none⟩ = some (.slice P2 E2 C2) := by rw [hwA, hB]; simp [go_sem]
  have y0 : wB.cell? ⟨B + 1, 0, none⟩ = some (.bool sb) := by rw [hwB, ← sA]; simp [go_sem]
  have y1 : wB.cell? ⟨B + 1, 1, none⟩ = some (.slice Q1 E3 D1) := by rw [hwB, ← sA]; simp [go_sem]
  have y2 : wB.cell? ⟨B + 1, 2, none⟩ = some (.slice Q2 E4 D2) := by rw [hwB, ← sA]; simp [go_sem]
  have r0 : w0.cell? ⟨B + 2, 0, none⟩ = some (.bool false) := by rw [hw0, ← sB]; simp [go_sem]
  have r1 : w0.cell? ⟨B + 2, 1, none⟩ = some (.slice none 0 0) := by rw [hw0, ← sB]; simp [go_sem]
  have r2 : w0.cell? ⟨B + 2, 2, none⟩ = some (.slice none 0 0) := by rw [hw0, ← sB]; simp [go_sem]
  have f0 : w0.frozen? ⟨B + 2, 0, none⟩ = false := by rw [hw0, ← sB]; simp [go_sem]
  have f1 : w0.frozen? ⟨B + 2, 1, none⟩ = false := by rw [hw0, ← sB]; simp [go_sem]
  have f2 : w0.frozen? ⟨B + 2, 2, none⟩ = false := by rw [hw0, ← sB]; simp [go_sem]
  have kw : Kp w w0 := by rw [hw0, hwB, hwA]; exact (((Kp.refl w).alloc _).alloc _).alloc _
  have kAB : Kp wA wB := by rw [hwB]; exact (Kp.refl wA).alloc _
  have kB0 : Kp wB w0 := by rw [hw0]; exact (Kp.refl wB).alloc _
  have kA0 : Kp wA w0 := kAB.trans kB0
  have hlt := cell_lt r0
  -- the products
  have t1 := timesR (.slice P1 E1 C1) (.slice Q2 E4 D2) a1 b2 w0 ⟨P1, C1, by rw [g1], h1.grown kw, l1⟩ ⟨Q2, D2, by rw [g4], h4.grown kw, l4⟩ (by omega) (by omega)
  have t2 := fun w9 (k : Kp w0 w9) => timesR (.slice Q1 E3 D1) (.slice P2 E2 C2) b1 a2 w9 ⟨Q1, D1, by rw [g3], h3.grown (kw.trans k), l3⟩ ⟨P2, C2, by rw [g2], h2.grown (kw.trans k), l2⟩ (by omega) (by omega)
  have t3 := fun w9 (k : Kp w0 w9) => timesR (.slice P2 E2 C2) (.slice Q2 E4 D2) a2 b2 w9 ⟨P2, C2, by rw [g2], h2.grown (kw.trans k), l2⟩ ⟨Q2, D2, by rw [g4], h4.grown (kw.trans k), l4⟩ (by omega) (by omega)
  rw [← hX] at t1
  rw [← hY] at t2
  rw [← hD] at t3
  have HW : Hid (w0 = wB.alloc (.cells #[.bool false, .slice none 0 0, .slice none 0 0] 46) ∧ wB = wA.alloc (.cells #[.bool sb, .slice Q1 E3 D1, .slice Q2 E4 D2] 46) ∧ wA = w.alloc (.cells #[.bool sa, .slice P1 E1 C1, .slice P2 E2 C2] 46) ∧ B = w.heap.size ∧ wA.heap.size = B + 1 ∧ wB.heap.size = B + 2 ∧ Kp w w0 ∧ Kp wA w0 ∧ Kp wB w0) := ⟨hw0, hwB, hwA, hB, sA, sB, kw, kA0, kB0⟩
  have X0 := kkeep kA0 x0
  have X1 := kkeep kA0 x1
  have X2 := kkeep kA0 x2
  have Y0 := kkeep kB0 y0
  have Y1 := kkeep kB0 y1
  have Y2 := kkeep kB0 y2
  have HL : Hid (D ≠ 0 ∧ len32 X ≤ 16000 ∧ len32 Y ≤ 16000 ∧ len32 D ≤ 16000 ∧ len32 (X + Y) ≤ 16000) := ⟨hz, lX, lY, lD, lS⟩
  clear hw0 hwB hwA hB sA sB kw kAB kB0 kA0 h1 l1 h2 l2 h3 l3 h4 l4 k1 k2 k3 k4 z2 z4 hX hY hD hz lX lY lD lS g1 g2 g3 g4 x1 x2 y1 y2
  subst hst
  go_enter Tryz.func44, Tryz.ntmps44
  go_wp2_with fail
  rw [← HW.out.2.2.2.1]
  try rw [← HW.out.2.2.1]
  try rw [← HW.out.2.1]
  try rw [← HW.out.1]
  refine t1.mono ?_; rintro e w1 ⟨p1, c1, rfl, s1, m1, k1⟩
  obtain ⟨N1, hN1⟩ : ∃ N, N = (dig X).length := ⟨_, rfl⟩
  rw [← hN1]
  have H1 : Hid (N1 = (dig X).length) := hN1
  clear hN1
  replace X0 := kkeep k1 X0
  replace X2 := kkeep k1 X2
  replace Y0 := kkeep k1 Y0
  replace Y1 := kkeep k1 Y1
  replace Y2 := kkeep k1 Y2
  have t2' := t2 w1 k1
  clear t1 t2
  go_wp2_with fail
  refine t2'.mono ?_; rintro e w2 ⟨p2, c2, rfl, s2, m2, k2⟩
  obtain ⟨N2, hN2⟩ : ∃ N, N = (dig Y).length := ⟨_, rfl⟩
  rw [← hN2]
  have H2 : Hid (N2 = (dig Y).length) := hN2
  clear hN2
  replace X0 := kkeep k2 X0
  replace X2 := kkeep k2 X2
  replace Y0 := kkeep k2 Y0
  replace Y2 := kkeep k2 Y2
  have t3' := t3 w2 (k1.trans k2)
  clear t2' t3
  go_wp2_with fail
  refine t3'.mono ?_; rintro e w3 ⟨p3, c3, rfl, s3, m3, k3⟩
  obtain ⟨N3, hN3⟩ : ∃ N, N = (dig D).length := ⟨_, rfl⟩
  rw [← hN3]
  have H3 : Hid (N3 = (dig D).length) := hN3
  clear hN3
  replace X0 := kkeep k3 X0
  replace Y0 := kkeep k3 Y0
  have k03 := (k1.trans k2).trans k3
  have HS : Hid (Ls w3 (.slice p1 N1 c1) (dig X) ∧ Ls w3 (.slice p2 N2 c2) (dig Y) ∧ Ls w3 (.slice p3 N3 c3) (dig D)) := ⟨⟨p1, c1, by rw [H1.out], (s1.grown k2).grown k3, m1⟩, ⟨p2, c2, by rw [H2.out], s2.grown k3, m2⟩, ⟨p3, c3, by rw [H3.out], s3, m3⟩⟩
  clear t3' s1 s2 s3 m1 m2 m3 k1 k2 k3 H1 H2 H3 X1 X2 Y1 Y2
  -- the last region
  replace r0 := kkeep k03 r0
  replace r1 := kkeep k03 r1
  replace r2 := kkeep k03 r2
  replace f0 := (kfro k03 hlt).trans f0
  replace f1 := (kfro k03 hlt).trans f1
  replace f2 := (kfro k03 hlt).trans f2
  have hlt3 := cell_lt r0
  have kS : Kp wA w3 := HW.out.2.2.2.2.2.2.2.1.trans k03
  have kD : Kp wA w3.drew := kS.drew
  have hge : wA.heap.size ≤ (⟨B + 2, 0, none⟩ : Addr).block := by have := HW.out.2.2.2.2.1; have := HW.out.2.2.2.2.2.1; simp only; omega
  have HP : Hid (∀ W, Kp w3 W → Calls Tryz.prog 74 #[.slice p1 N1 c1, .slice p2 N2 c2] W fun e w' => ∃ p c, e = .returned (.slice p (dig (X + Y)).length c) ∧ Arr w' p (dig (X + Y)) ∧ (dig (X + Y)).length ≤ c ∧ Kp W w') := fun W kk => plusR _ _ X Y W (HS.out.1.kp kk) (HS.out.2.1.kp kk) (by have := HL.out; omega) (by have := HL.out; omega)
  have HFR : Hid (∀ (p : Option Addr) (c : Nat) (W : World), Kp w3 W → Arr W p (dig (X + Y)) → (dig (X + Y)).length ≤ c → Calls Tryz.prog 46 #[.bool sa, .slice p (dig (X + Y)).length c, .slice p3 N3 c3, .int .i64 0] W fun e w' => ∃ (vn vd : Value) (a' b' : Nat) (ng : Bool), e = .returned (.agg #[.bool ng, vn, vd]) ∧ Own w' W.heap.size vn (dig a') ∧ Own w' W.heap.size vd (dig b') ∧ (FracOf (X + Y) D 0 a' b' ∧ (X + Y ≠ 0 → ng = sa)) ∧ Kp W w') := by
    show ∀ (p : Option Addr) (c : Nat) (W : World), Kp w3 W → Arr W p (dig (X + Y)) → (dig (X + Y)).length ≤ c → Calls Tryz.prog 46 #[.bool sa, .slice p (dig (X + Y)).length c, .slice p3 N3 c3, .int .i64 0] W fun e w' => ∃ (vn vd : Value) (a' b' : Nat) (ng : Bool), e = .returned (.agg #[.bool ng, vn, vd]) ∧ Own w' W.heap.size vn (dig a') ∧ Own w' W.heap.size vd (dig b') ∧ (FracOf (X + Y) D 0 a' b' ∧ (X + Y ≠ 0 → ng = sa)) ∧ Kp W w'
    intro p c W kk ar ll
    obtain ⟨z, q1, q2, q3, q4⟩ := HL.out
    have g := frac_ sa (.slice p (dig (X + Y)).length c) (.slice p3 N3 c3) (dig (X + Y)) (dig D) 0 W ⟨p, c, rfl, ar, ll⟩ (HS.out.2.2.kp kk) (Wd_dig _) (Wd_dig _) (by change len32 _ ≤ _; omega) (by change len32 _ ≤ _; omega) (by rw [val_dig]; exact z) (by decide)
    rw [val_dig, val_dig] at g
    exact g
  obtain ⟨NX, hNX⟩ : ∃ N, N = (dig (X + Y)).length := ⟨_, rfl⟩
  rw [← hNX] at HP HFR
  clear hNX
  go_upto_region 5 with fail
  go_region_held3 (fun w' => w'.cell? ⟨B, 0, none⟩ = some (.bool sa)) ((refine kkeep (W := wA) ?_ x0; (repeat (first | with_reducible exact kB | with_reducible exact kA | with_reducible exact kD | with_reducible exact Kp.refl _ | with_reducible refine Kp.drew ?_ | refine Kp.setCell ?_ hge _)); done)) (first | (go_at_call 46; have hh := ar1; refine (HFR.out pp cc _ ?q1 ?q2 ll1).mono ?_; (case q1 => (repeat (first | with_reducible exact kk1 | with_reducible exact Kp.refl _ | with_reducible refine Kp.drew ?_)); done); (case q2 => exact ar1); rintro e v2 ⟨vn, vd, a', b', ng, rfl, o1, o2, ff, k12⟩; have kk2 : Kp w3 v2 := kk1.trans k12; have kB : Kp wA v2 := kS.trans kk2; obtain ⟨pn, cn, rfl, an, ln⟩ := o1.arr; obtain ⟨pd, cd, rfl, ad, ld⟩ := o2.arr; have R0 := kkeep kk2 r0; have R1 := kkeep kk2 r1; have R2 := kkeep kk2 r2; have F0 := (kfro kk2 hlt3).trans f0; have F1 := (kfro kk2 hlt3).trans f1; have F2 := (kfro kk2 hlt3).trans f2) | (go_at_call 74; refine (HP.out _ ?q3).mono ?_; (case q3 => (repeat (first | with_reducible exact Kp.refl _ | with_reducible refine Kp.drew ?_)); done); rintro e v1 ⟨pp, cc, rfl, ar1, ll1, k01⟩; have kk1 : Kp w3 v1 := Kp.trans ?q4 k01; (case q4 => (repeat (first | with_reducible exact Kp.refl _ | with_reducible refine Kp.drew ?_)); done); have kA : Kp wA v1 := kS.trans kk1))
  have hs1 := Below.size kk1
  obtain ⟨wz, hwz⟩ : ∃ wz, wz = ((v2.setCell ⟨B + 2, 0, none⟩ (.bool ng)).setCell ⟨B + 2, 1, none⟩ (.slice pn (dig a').length cn)).setCell ⟨B + 2, 2, none⟩ (.slice pd (dig b').length cd) := ⟨_, rfl⟩
  have kb : Kb (B + 2) v2 wz := by rw [hwz]; exact (((Kb.refl (B + 2) v2).setCell 0 _).setCell 1 _).setCell 2 _
  have O1 := o1.kb kb (fun g hg => by have := o1.lt g hg; omega)
  have O2 := o2.kb kb (fun g hg => by have := o2.lt g hg; omega)
  have hkw : Kp w wz := kb.kp ((HW.out.2.2.2.2.2.2.1.trans k03).trans kk2) (by rw [HW.out.2.2.2.1]; omega)
  have HO : Hid (Own wz w.heap.size (.slice pn (dig a').length cn) (dig a') ∧ Own wz w.heap.size (.slice pd (dig b').length cd) (dig b') ∧ (FracOf (X + Y) D 0 a' b' ∧ (X + Y ≠ 0 → ng = sa)) ∧ Kp w wz ∧ wz = ((v2.setCell ⟨B + 2, 0, none⟩ (.bool ng)).setCell ⟨B + 2, 1, none⟩ (.slice pn (dig a').length cn)).setCell ⟨B + 2, 2, none⟩ (.slice pd (dig b').length cd)) := ⟨O1.mono (by have e9 := HW.out.2.2.2.1; first | omega | exact Nat.le_trans (show w.heap.size ≤ v1.heap.size by omega) (Nat.le_refl _)), O2.mono (by have e9 := HW.out.2.2.2.1; first | omega | exact Nat.le_trans (show w.heap.size ≤ v1.heap.size by omega) (Nat.le_refl _)), ff, hkw, hwz⟩
  clear hs1 hwz kb O1 O2 hkw o1 o2 ff k12 kk2 kB an ln ad ld kk1 k01 kA ar1 ll1 HP HFR HS HL kS kD hge k03
  go_wp2
  obtain ⟨q1, q2, q3, q4, q5⟩ := HO.out
  rw [q5] at q1 q2 q4
  exact bodyPost_ret (v := .agg #[.bool ng, .slice pn (dig a').length cn, .slice pd (dig b').length cd]) (by simp [results, Tryz.results44, go_sem, R0, R1, R2]) rfl ⟨_, _, a', b', ng, rfl, q1, q2, q3, q4⟩
set_option maxRecDepth 20000 in
set_option maxHeartbeats 1000000 in
theorem raddGeO_ (sa sb : Bool) (a1 a2 b1 b2 : Nat) (P1 P2 Q1 Q2 : Option Addr) (C1 C2 D1 D2 : Nat) (w : World) (h1 : Arr w P1 (dig a1)) (l1 : (dig a1).length ≤ C1) (h2 : Arr w P2 (dig a2)) (l2 : (dig a2).length ≤ C2) (h3 : Arr w Q1 (dig b1)) (l3 : (dig b1).length ≤ D1) (h4 : Arr w Q2 (dig b2)) (l4 : (dig b2).length ≤ D2) (k1 : len32 a1 ≤ 4000) (k2 : len32 a2 ≤ 4000) (k3 : len32 b1 ≤ 4000) (k4 : len32 b2 ≤ 4000) (z2 : a2 ≠ 0) (z4 : b2 ≠ 0) (X Y D : Nat) (hX : X = a1 * b2) (hY : Y = b1 * a2) (hD : D = a2 * b2) (lX : len32 X ≤ 16000) (lY : len32 Y ≤ 16000) (lD : len32 D ≤ 16000) (lS : len32 (X + Y) ≤ 16000) (hst : sa ≠ sb) (hle : Y ≤ X) :
    Calls Tryz.prog 44 #[.agg #[.bool sa, .slice P1 (dig a1).length C1, .slice P2 (dig a2).length C2], .agg #[.bool sb, .slice Q1 (dig b1).length D1, .slice Q2 (dig b2).length D2]] w fun e w' => ∃ (vn vd : Value) (a' b' : Nat) (ng : Bool), e = .returned (.agg #[.bool ng, vn, vd]) ∧ Own w' w.heap.size vn (dig a') ∧ Own w' w.heap.size vd (dig b') ∧ (FracOf (X - Y) D 0 a' b' ∧ (X - Y ≠ 0 → ng = sa)) ∧ Kp w w' := by
  have hz : D ≠ 0 := by rw [hD]; exact Nat.mul_ne_zero z2 z4
  obtain ⟨E1, g1⟩ : ∃ E, E = (dig a1).length := ⟨_, rfl⟩
  obtain ⟨E2, g2⟩ : ∃ E, E = (dig a2).length := ⟨_, rfl⟩
  obtain ⟨E3, g3⟩ : ∃ E, E = (dig b1).length := ⟨_, rfl⟩
  obtain ⟨E4, g4⟩ : ∃ E, E = (dig b2).length := ⟨_, rfl⟩
  rw [← g1, ← g2, ← g3, ← g4]
  obtain ⟨B, hB⟩ : ∃ B, B = w.heap.size := ⟨_, rfl⟩
  obtain ⟨wA, hwA⟩ : ∃ wA, wA = w.alloc (.cells #[.bool sa, .slice P1 E1 C1, .slice P2 E2 C2] 46) := ⟨_, rfl⟩
  obtain ⟨wB, hwB⟩ : ∃ wB, wB = wA.alloc (.cells #[.bool sb, .slice Q1 E3 D1, .slice Q2 E4 D2] 46) := ⟨_, rfl⟩
  obtain ⟨w0, hw0⟩ : ∃ w0, w0 = wB.alloc (.cells #[.bool false, .slice none 0 0, .slice none 0 0] 46) := ⟨_, rfl⟩
  have sA : wA.heap.size = B + 1 := by rw [hwA, hB]; simp
  have sB : wB.heap.size = B + 2 := by rw [hwB]; simp [sA]
  have x0 : wA.cell? ⟨B, 0, none⟩ = some (.bool sa) := by rw [hwA, hB]; simp [go_sem]
  have x1 : wA.cell? ⟨B, 1, none⟩ = some (.slice P1 E1 C1) := by rw [hwA, hB]; simp [go_sem]
  have x2 : wA.cell? ⟨B, 2, none⟩ = some (.slice P2 E2 C2) := by rw [hwA, hB]; simp [go_sem]
  have y0 : wB.cell? ⟨B + 1, 0, none⟩ = some (.bool sb) := by rw [hwB, ← sA]; simp [go_sem]
  have y1 : wB.cell? ⟨B + 1, 1, none⟩ = some (.slice Q1 E3 D1) := by rw [hwB, ← sA]; simp [go_sem]
  have y2 : wB.cell? ⟨B + 1, 2, none⟩ = some (.slice Q2 E4 D2) := by rw [hwB, ← sA]; simp [go_sem]
  have r0 : w0.cell? ⟨B + 2, 0, none⟩ = some (.bool false) := by rw [hw0, ← sB]; simp [go_sem]
  have r1 : w0.cell? ⟨B + 2, 1, none⟩ = some (.slice none 0 0) := by rw [hw0, ← sB]; simp [go_sem]
  have r2 : w0.cell? ⟨B + 2, 2, none⟩ = some (.slice none 0 0) := by rw [hw0, ← sB]; simp [go_sem]
  have f0 : w0.frozen? ⟨B + 2, 0, none⟩ = false := by rw [hw0, ← sB]; simp [go_sem]
  have f1 : w0.frozen? ⟨B + 2, 1, none⟩ = false := by rw [hw0, ← sB]; simp [go_sem]
  have f2 : w0.frozen? ⟨B + 2, 2, none⟩ = false := by rw [hw0, ← sB]; simp [go_sem]
  have kw : Kp w w0 := by rw [hw0, hwB, hwA]; exact (((Kp.refl w).alloc _).alloc _).alloc _
  have kAB : Kp wA wB := by rw [hwB]; exact (Kp.refl wA).alloc _
  have kB0 : Kp wB w0 := by rw [hw0]; exact (Kp.refl wB).alloc _
  have kA0 : Kp wA w0 := kAB.trans kB0
  have hlt := cell_lt r0
  -- the products
  have t1 := timesR (.slice P1 E1 C1) (.slice Q2 E4 D2) a1 b2 w0 ⟨P1, C1, by rw [g1], h1.grown kw, l1⟩ ⟨Q2, D2, by rw [g4], h4.grown kw, l4⟩ (by omega) (by omega)
  have t2 := fun w9 (k : Kp w0 w9) => timesR (.slice Q1 E3 D1) (.slice P2 E2 C2) b1 a2 w9 ⟨Q1, D1, by rw [g3], h3.grown (kw.trans k), l3⟩ ⟨P2, C2, by rw [g2], h2.grown (kw.trans k), l2⟩ (by omega) (by omega)
  have t3 := fun w9 (k : Kp w0 w9) => timesR (.slice P2 E2 C2) (.slice Q2 E4 D2) a2 b2 w9 ⟨P2, C2, by rw [g2], h2.grown (kw.trans k), l2⟩ ⟨Q2, D2, by rw [g4], h4.grown (kw.trans k), l4⟩ (by omega) (by omega)
  rw [← hX] at t1
  rw [← hY] at t2
  rw [← hD] at t3
  have HW : Hid (w0 = wB.alloc (.cells #[.bool false, .slice none 0 0, .slice none 0 0] 46) ∧ wB = wA.alloc (.cells #[.bool sb, .slice Q1 E3 D1, .slice Q2 E4 D2] 46) ∧ wA = w.alloc (.cells #[.bool sa, .slice P1 E1 C1, .slice P2 E2 C2] 46) ∧ B = w.heap.size ∧ wA.heap.size = B + 1 ∧ wB.heap.size = B + 2 ∧ Kp w w0 ∧ Kp wA w0 ∧ Kp wB w0) := ⟨hw0, hwB, hwA, hB, sA, sB, kw, kA0, kB0⟩
  have X0 := kkeep kA0 x0
  have X1 := kkeep kA0 x1
  have X2 := kkeep kA0 x2
  have Y0 := kkeep kB0 y0
  have Y1 := kkeep kB0 y1
  have Y2 := kkeep kB0 y2
  have HL : Hid (D ≠ 0 ∧ len32 X ≤ 16000 ∧ len32 Y ≤ 16000 ∧ len32 D ≤ 16000 ∧ len32 (X + Y) ≤ 16000) := ⟨hz, lX, lY, lD, lS⟩
  clear hw0 hwB hwA hB sA sB kw kAB kB0 kA0 h1 l1 h2 l2 h3 l3 h4 l4 k1 k2 k3 k4 z2 z4 hX hY hD hz lX lY lD lS g1 g2 g3 g4 x1 x2 y1 y2
  have est : (sa == sb) = false := by cases sa <;> cases sb <;> simp_all
  have est' : decide (sa = sb) = false := by simp [hst]
  clear hst
  have HG : Hid (Y ≤ X) := hle
  clear hle
  go_enter Tryz.func44, Tryz.ntmps44
  go_wp2_with fail
  rw [← HW.out.2.2.2.1]
  try rw [← HW.out.2.2.1]
  try rw [← HW.out.2.1]
  try rw [← HW.out.1]
  refine t1.mono ?_; rintro e w1 ⟨p1, c1, rfl, s1, m1, k1⟩
  obtain ⟨N1, hN1⟩ : ∃ N, N = (dig X).length := ⟨_, rfl⟩
  rw [← hN1]
  have H1 : Hid (N1 = (dig X).length) := hN1
  clear hN1
  replace X0 := kkeep k1 X0
  replace X2 := kkeep k1 X2
  replace Y0 := kkeep k1 Y0
  replace Y1 := kkeep k1 Y1
  replace Y2 := kkeep k1 Y2
  have t2' := t2 w1 k1
  clear t1 t2
  go_wp2_with fail
  refine t2'.mono ?_; rintro e w2 ⟨p2, c2, rfl, s2, m2, k2⟩
  obtain ⟨N2, hN2⟩ : ∃ N, N = (dig Y).length := ⟨_, rfl⟩
  rw [← hN2]
  have H2 : Hid (N2 = (dig Y).length) := hN2
  clear hN2
  replace X0 := kkeep k2 X0
  replace X2 := kkeep k2 X2
  replace Y0 := kkeep k2 Y0
  replace Y2 := kkeep k2 Y2
  have t3' := t3 w2 (k1.trans k2)
  clear t2' t3
  go_wp2_with fail
  refine t3'.mono ?_; rintro e w3 ⟨p3, c3, rfl, s3, m3, k3⟩
  obtain ⟨N3, hN3⟩ : ∃ N, N = (dig D).length := ⟨_, rfl⟩
  rw [← hN3]
  have H3 : Hid (N3 = (dig D).length) := hN3
  clear hN3
  replace X0 := kkeep k3 X0
  replace Y0 := kkeep k3 Y0
  have k03 := (k1.trans k2).trans k3
  have HS : Hid (Ls w3 (.slice p1 N1 c1) (dig X) ∧ Ls w3 (.slice p2 N2 c2) (dig Y) ∧ Ls w3 (.slice p3 N3 c3) (dig D)) := ⟨⟨p1, c1, by rw [H1.out], (s1.grown k2).grown k3, m1⟩, ⟨p2, c2, by rw [H2.out], s2.grown k3, m2⟩, ⟨p3, c3, by rw [H3.out], s3, m3⟩⟩
  clear t3' s1 s2 s3 m1 m2 m3 k1 k2 k3 H1 H2 H3 X1 X2 Y1 Y2
  have hcm := cmpR (.slice p1 N1 c1) (.slice p2 N2 c2) X Y w3 HS.out.1 HS.out.2.1 (by have := blen_len X 16000 HL.out.2.1; omega) (by have := blen_len Y 16000 HL.out.2.2.1; omega)
  obtain ⟨cv9, hcv9⟩ : ∃ cv9, cv9 = cmpN X Y := ⟨_, rfl⟩
  rw [← hcv9] at hcm
  have tcv : 0 ≤ cv9 := by
    rw [hcv9]; unfold cmpN; have := HG.out; rw [if_neg (by omega)]; split <;> omega
  clear hcv9
  go_wp2_with fail
  refine hcm.mono ?_; rintro e w4 ⟨rfl, k4⟩
  clear hcm
  replace X0 := kkeep k4 X0
  replace Y0 := kkeep k4 Y0
  replace HS : Hid (Ls w4 (.slice p1 N1 c1) (dig X) ∧ Ls w4 (.slice p2 N2 c2) (dig Y) ∧ Ls w4 (.slice p3 N3 c3) (dig D)) := ⟨HS.out.1.kp k4, HS.out.2.1.kp k4, HS.out.2.2.kp k4⟩
  replace k03 := k03.trans k4
  clear k4
  -- the last region
  replace r0 := kkeep k03 r0
  replace r1 := kkeep k03 r1
  replace r2 := kkeep k03 r2
  replace f0 := (kfro k03 hlt).trans f0
  replace f1 := (kfro k03 hlt).trans f1
  replace f2 := (kfro k03 hlt).trans f2
  have hlt3 := cell_lt r0
  have kS : Kp wA w4 := HW.out.2.2.2.2.2.2.2.1.trans k03
  have kD : Kp wA w4.drew := kS.drew
  have hge : wA.heap.size ≤ (⟨B + 2, 0, none⟩ : Addr).block := by have := HW.out.2.2.2.2.1; have := HW.out.2.2.2.2.2.1; simp only; omega
  have HP : Hid (∀ W, Kp w4 W → Calls Tryz.prog 75 #[.slice p1 N1 c1, .slice p2 N2 c2] W fun e w' => ∃ p c, e = .returned (.slice p (dig (X - Y)).length c) ∧ Arr w' p (dig (X - Y)) ∧ (dig (X - Y)).length ≤ c ∧ Kp W w') := fun W kk => minusR _ _ X Y W (HS.out.1.kp kk) (HS.out.2.1.kp kk) (by have := HL.out; omega) HG.out
  have HFR : Hid (∀ (p : Option Addr) (c : Nat) (W : World), Kp w4 W → Arr W p (dig (X - Y)) → (dig (X - Y)).length ≤ c → Calls Tryz.prog 46 #[.bool sa, .slice p (dig (X - Y)).length c, .slice p3 N3 c3, .int .i64 0] W fun e w' => ∃ (vn vd : Value) (a' b' : Nat) (ng : Bool), e = .returned (.agg #[.bool ng, vn, vd]) ∧ Own w' W.heap.size vn (dig a') ∧ Own w' W.heap.size vd (dig b') ∧ (FracOf (X - Y) D 0 a' b' ∧ (X - Y ≠ 0 → ng = sa)) ∧ Kp W w') := by
    show ∀ (p : Option Addr) (c : Nat) (W : World), Kp w4 W → Arr W p (dig (X - Y)) → (dig (X - Y)).length ≤ c → Calls Tryz.prog 46 #[.bool sa, .slice p (dig (X - Y)).length c, .slice p3 N3 c3, .int .i64 0] W fun e w' => ∃ (vn vd : Value) (a' b' : Nat) (ng : Bool), e = .returned (.agg #[.bool ng, vn, vd]) ∧ Own w' W.heap.size vn (dig a') ∧ Own w' W.heap.size vd (dig b') ∧ (FracOf (X - Y) D 0 a' b' ∧ (X - Y ≠ 0 → ng = sa)) ∧ Kp W w'
    intro p c W kk ar ll
    obtain ⟨z, q1, q2, q3, q4⟩ := HL.out
    have g := frac_ sa (.slice p (dig (X - Y)).length c) (.slice p3 N3 c3) (dig (X - Y)) (dig D) 0 W ⟨p, c, rfl, ar, ll⟩ (HS.out.2.2.kp kk) (Wd_dig _) (Wd_dig _) (by change len32 _ ≤ _; have := len32_mono (Nat.sub_le X Y); omega) (by change len32 _ ≤ _; omega) (by rw [val_dig]; exact z) (by decide)
    rw [val_dig, val_dig] at g
    exact g
  obtain ⟨NX, hNX⟩ : ∃ N, N = (dig (X - Y)).length := ⟨_, rfl⟩
  rw [← hNX] at HP HFR
  clear hNX
  go_upto_region 7 with fail
  go_region_held3 (fun w' => w'.cell? ⟨B, 0, none⟩ = some (.bool sa)) ((refine kkeep (W := wA) ?_ x0; (repeat (first | with_reducible exact kB | with_reducible exact kA | with_reducible exact kD | with_reducible exact Kp.refl _ | with_reducible refine Kp.drew ?_ | refine Kp.setCell ?_ hge _)); done)) (first | (go_at_call 46; have hh := ar1; refine (HFR.out pp cc _ ?q1 ?q2 ll1).mono ?_; (case q1 => (repeat (first | with_reducible exact kk1 | with_reducible exact Kp.refl _ | with_reducible refine Kp.drew ?_)); done); (case q2 => exact ar1); rintro e v2 ⟨vn, vd, a', b', ng, rfl, o1, o2, ff, k12⟩; have kk2 : Kp w4 v2 := kk1.trans k12; have kB : Kp wA v2 := kS.trans kk2; obtain ⟨pn, cn, rfl, an, ln⟩ := o1.arr; obtain ⟨pd, cd, rfl, ad, ld⟩ := o2.arr; have R0 := kkeep kk2 r0; have R1 := kkeep kk2 r1; have R2 := kkeep kk2 r2; have F0 := (kfro kk2 hlt3).trans f0; have F1 := (kfro kk2 hlt3).trans f1; have F2 := (kfro kk2 hlt3).trans f2) | (go_at_call 75; refine (HP.out _ ?q3).mono ?_; (case q3 => (repeat (first | with_reducible exact Kp.refl _ | with_reducible refine Kp.drew ?_)); done); rintro e v1 ⟨pp, cc, rfl, ar1, ll1, k01⟩; have kk1 : Kp w4 v1 := Kp.trans ?q4 k01; (case q4 => (repeat (first | with_reducible exact Kp.refl _ | with_reducible refine Kp.drew ?_)); done); have kA : Kp wA v1 := kS.trans kk1))
  have hs1 := Below.size kk1
  obtain ⟨wz, hwz⟩ : ∃ wz, wz = ((v2.setCell ⟨B + 2, 0, none⟩ (.bool ng)).setCell ⟨B + 2, 1, none⟩ (.slice pn (dig a').length cn)).setCell ⟨B + 2, 2, none⟩ (.slice pd (dig b').length cd) := ⟨_, rfl⟩
  have kb : Kb (B + 2) v2 wz := by rw [hwz]; exact (((Kb.refl (B + 2) v2).setCell 0 _).setCell 1 _).setCell 2 _
  have O1 := o1.kb kb (fun g hg => by have := o1.lt g hg; omega)
  have O2 := o2.kb kb (fun g hg => by have := o2.lt g hg; omega)
  have hkw : Kp w wz := kb.kp ((HW.out.2.2.2.2.2.2.1.trans k03).trans kk2) (by rw [HW.out.2.2.2.1]; omega)
  have HO : Hid (Own wz w.heap.size (.slice pn (dig a').length cn) (dig a') ∧ Own wz w.heap.size (.slice pd (dig b').length cd) (dig b') ∧ (FracOf (X - Y) D 0 a' b' ∧ (X - Y ≠ 0 → ng = sa)) ∧ Kp w wz ∧ wz = ((v2.setCell ⟨B + 2, 0, none⟩ (.bool ng)).setCell ⟨B + 2, 1, none⟩ (.slice pn (dig a').length cn)).setCell ⟨B + 2, 2, none⟩ (.slice pd (dig b').length cd)) := ⟨O1.mono (by have e9 := HW.out.2.2.2.1; first | omega | exact Nat.le_trans (show w.heap.size ≤ v1.heap.size by omega) (Nat.le_refl _)), O2.mono (by have e9 := HW.out.2.2.2.1; first | omega | exact Nat.le_trans (show w.heap.size ≤ v1.heap.size by omega) (Nat.le_refl _)), ff, hkw, hwz⟩
  clear hs1 hwz kb O1 O2 hkw o1 o2 ff k12 kk2 kB an ln ad ld kk1 k01 kA ar1 ll1 HP HFR HS HL kS kD hge k03
  go_wp2
  obtain ⟨q1, q2, q3, q4, q5⟩ := HO.out
  rw [q5] at q1 q2 q4
  exact bodyPost_ret (v := .agg #[.bool ng, .slice pn (dig a').length cn, .slice pd (dig b').length cd]) (by simp [results, Tryz.results44, go_sem, R0, R1, R2]) rfl ⟨_, _, a', b', ng, rfl, q1, q2, q3, q4⟩
set_option maxRecDepth 20000 in
set_option maxHeartbeats 1000000 in
theorem raddLtO_ (sa sb : Bool) (a1 a2 b1 b2 : Nat) (P1 P2 Q1 Q2 : Option Addr) (C1 C2 D1 D2 : Nat) (w : World) (h1 : Arr w P1 (dig a1)) (l1 : (dig a1).length ≤ C1) (h2 : Arr w P2 (dig a2)) (l2 : (dig a2).length ≤ C2) (h3 : Arr w Q1 (dig b1)) (l3 : (dig b1).length ≤ D1) (h4 : Arr w Q2 (dig b2)) (l4 : (dig b2).length ≤ D2) (k1 : len32 a1 ≤ 4000) (k2 : len32 a2 ≤ 4000) (k3 : len32 b1 ≤ 4000) (k4 : len32 b2 ≤ 4000) (z2 : a2 ≠ 0) (z4 : b2 ≠ 0) (X Y D : Nat) (hX : X = a1 * b2) (hY : Y = b1 * a2) (hD : D = a2 * b2) (lX : len32 X ≤ 16000) (lY : len32 Y ≤ 16000) (lD : len32 D ≤ 16000) (lS : len32 (X + Y) ≤ 16000) (hst : sa ≠ sb) (hle : X < Y) :
    Calls Tryz.prog 44 #[.agg #[.bool sa, .slice P1 (dig a1).length C1, .slice P2 (dig a2).length C2], .agg #[.bool sb, .slice Q1 (dig b1).length D1, .slice Q2 (dig b2).length D2]] w fun e w' => ∃ (vn vd : Value) (a' b' : Nat) (ng : Bool), e = .returned (.agg #[.bool ng, vn, vd]) ∧ Own w' w.heap.size vn (dig a') ∧ Own w' w.heap.size vd (dig b') ∧ (FracOf (Y - X) D 0 a' b' ∧ (Y - X ≠ 0 → ng = sb)) ∧ Kp w w' := by
  have hz : D ≠ 0 := by rw [hD]; exact Nat.mul_ne_zero z2 z4
  obtain ⟨E1, g1⟩ : ∃ E, E = (dig a1).length := ⟨_, rfl⟩
  obtain ⟨E2, g2⟩ : ∃ E, E = (dig a2).length := ⟨_, rfl⟩
  obtain ⟨E3, g3⟩ : ∃ E, E = (dig b1).length := ⟨_, rfl⟩
  obtain ⟨E4, g4⟩ : ∃ E, E = (dig b2).length := ⟨_, rfl⟩
  rw [← g1, ← g2, ← g3, ← g4]
  obtain ⟨B, hB⟩ : ∃ B, B = w.heap.size := ⟨_, rfl⟩
  obtain ⟨wA, hwA⟩ : ∃ wA, wA = w.alloc (.cells #[.bool sa, .slice P1 E1 C1, .slice P2 E2 C2] 46) := ⟨_, rfl⟩
  obtain ⟨wB, hwB⟩ : ∃ wB, wB = wA.alloc (.cells #[.bool sb, .slice Q1 E3 D1, .slice Q2 E4 D2] 46) := ⟨_, rfl⟩
  obtain ⟨w0, hw0⟩ : ∃ w0, w0 = wB.alloc (.cells #[.bool false, .slice none 0 0, .slice none 0 0] 46) := ⟨_, rfl⟩
  have sA : wA.heap.size = B + 1 := by rw [hwA, hB]; simp
  have sB : wB.heap.size = B + 2 := by rw [hwB]; simp [sA]
  have x0 : wA.cell? ⟨B, 0, none⟩ = some (.bool sa) := by rw [hwA, hB]; simp [go_sem]
  have x1 : wA.cell? ⟨B, 1, none⟩ = some (.slice P1 E1 C1) := by rw [hwA, hB]; simp [go_sem]
  have x2 : wA.cell? ⟨B, 2, none⟩ = some (.slice P2 E2 C2) := by rw [hwA, hB]; simp [go_sem]
  have y0 : wB.cell? ⟨B + 1, 0, none⟩ = some (.bool sb) := by rw [hwB, ← sA]; simp [go_sem]
  have y1 : wB.cell? ⟨B + 1, 1, none⟩ = some (.slice Q1 E3 D1) := by rw [hwB, ← sA]; simp [go_sem]
  have y2 : wB.cell? ⟨B + 1, 2, none⟩ = some (.slice Q2 E4 D2) := by rw [hwB, ← sA]; simp [go_sem]
  have r0 : w0.cell? ⟨B + 2, 0, none⟩ = some (.bool false) := by rw [hw0, ← sB]; simp [go_sem]
  have r1 : w0.cell? ⟨B + 2, 1, none⟩ = some (.slice none 0 0) := by rw [hw0, ← sB]; simp [go_sem]
  have r2 : w0.cell? ⟨B + 2, 2, none⟩ = some (.slice none 0 0) := by rw [hw0, ← sB]; simp [go_sem]
  have f0 : w0.frozen? ⟨B + 2, 0, none⟩ = false := by rw [hw0, ← sB]; simp [go_sem]
  have f1 : w0.frozen? ⟨B + 2, 1, none⟩ = false := by rw [hw0, ← sB]; simp [go_sem]
  have f2 : w0.frozen? ⟨B + 2, 2, none⟩ = false := by rw [hw0, ← sB]; simp [go_sem]
  have kw : Kp w w0 := by rw [hw0, hwB, hwA]; exact (((Kp.refl w).alloc _).alloc _).alloc _
  have kAB : Kp wA wB := by rw [hwB]; exact (Kp.refl wA).alloc _
  have kB0 : Kp wB w0 := by rw [hw0]; exact (Kp.refl wB).alloc _
  have kA0 : Kp wA w0 := kAB.trans kB0
  have hlt := cell_lt r0
  -- the products
  have t1 := timesR (.slice P1 E1 C1) (.slice Q2 E4 D2) a1 b2 w0 ⟨P1, C1, by rw [g1], h1.grown kw, l1⟩ ⟨Q2, D2, by rw [g4], h4.grown kw, l4⟩ (by omega) (by omega)
  have t2 := fun w9 (k : Kp w0 w9) => timesR (.slice Q1 E3 D1) (.slice P2 E2 C2) b1 a2 w9 ⟨Q1, D1, by rw [g3], h3.grown (kw.trans k), l3⟩ ⟨P2, C2, by rw [g2], h2.grown (kw.trans k), l2⟩ (by omega) (by omega)
  have t3 := fun w9 (k : Kp w0 w9) => timesR (.slice P2 E2 C2) (.slice Q2 E4 D2) a2 b2 w9 ⟨P2, C2, by rw [g2], h2.grown (kw.trans k), l2⟩ ⟨Q2, D2, by rw [g4], h4.grown (kw.trans k), l4⟩ (by omega) (by omega)
  rw [← hX] at t1
  rw [← hY] at t2
  rw [← hD] at t3
  have HW : Hid (w0 = wB.alloc (.cells #[.bool false, .slice none 0 0, .slice none 0 0] 46) ∧ wB = wA.alloc (.cells #[.bool sb, .slice Q1 E3 D1, .slice Q2 E4 D2] 46) ∧ wA = w.alloc (.cells #[.bool sa, .slice P1 E1 C1, .slice P2 E2 C2] 46) ∧ B = w.heap.size ∧ wA.heap.size = B + 1 ∧ wB.heap.size = B + 2 ∧ Kp w w0 ∧ Kp wA w0 ∧ Kp wB w0) := ⟨hw0, hwB, hwA, hB, sA, sB, kw, kA0, kB0⟩
  have X0 := kkeep kA0 x0
  have X1 := kkeep kA0 x1
  have X2 := kkeep kA0 x2
  have Y0 := kkeep kB0 y0
  have Y1 := kkeep kB0 y1
  have Y2 := kkeep kB0 y2
  have HL : Hid (D ≠ 0 ∧ len32 X ≤ 16000 ∧ len32 Y ≤ 16000 ∧ len32 D ≤ 16000 ∧ len32 (X + Y) ≤ 16000) := ⟨hz, lX, lY, lD, lS⟩
  clear hw0 hwB hwA hB sA sB kw kAB kB0 kA0 h1 l1 h2 l2 h3 l3 h4 l4 k1 k2 k3 k4 z2 z4 hX hY hD hz lX lY lD lS g1 g2 g3 g4 x1 x2 y1 y2
  have est : (sa == sb) = false := by cases sa <;> cases sb <;> simp_all
  have est' : decide (sa = sb) = false := by simp [hst]
  clear hst
  have HG : Hid (X < Y) := hle
  clear hle
  go_enter Tryz.func44, Tryz.ntmps44
  go_wp2_with fail
  rw [← HW.out.2.2.2.1]
  try rw [← HW.out.2.2.1]
  try rw [← HW.out.2.1]
  try rw [← HW.out.1]
  refine t1.mono ?_; rintro e w1 ⟨p1, c1, rfl, s1, m1, k1⟩
  obtain ⟨N1, hN1⟩ : ∃ N, N = (dig X).length := ⟨_, rfl⟩
  rw [← hN1]
  have H1 : Hid (N1 = (dig X).length) := hN1
  clear hN1
  replace X0 := kkeep k1 X0
  replace X2 := kkeep k1 X2
  replace Y0 := kkeep k1 Y0
  replace Y1 := kkeep k1 Y1
  replace Y2 := kkeep k1 Y2
  have t2' := t2 w1 k1
  clear t1 t2
  go_wp2_with fail
  refine t2'.mono ?_; rintro e w2 ⟨p2, c2, rfl, s2, m2, k2⟩
  obtain ⟨N2, hN2⟩ : ∃ N, N = (dig Y).length := ⟨_, rfl⟩
  rw [← hN2]
  have H2 : Hid (N2 = (dig Y).length) := hN2
  clear hN2
  replace X0 := kkeep k2 X0
  replace X2 := kkeep k2 X2
  replace Y0 := kkeep k2 Y0
  replace Y2 := kkeep k2 Y2
  have t3' := t3 w2 (k1.trans k2)
  clear t2' t3
  go_wp2_with fail
  refine t3'.mono ?_; rintro e w3 ⟨p3, c3, rfl, s3, m3, k3⟩
  obtain ⟨N3, hN3⟩ : ∃ N, N = (dig D).length := ⟨_, rfl⟩
  rw [← hN3]
  have H3 : Hid (N3 = (dig D).length) := hN3
  clear hN3
  replace X0 := kkeep k3 X0
  replace Y0 := kkeep k3 Y0
  have k03 := (k1.trans k2).trans k3
  have HS : Hid (Ls w3 (.slice p1 N1 c1) (dig X) ∧ Ls w3 (.slice p2 N2 c2) (dig Y) ∧ Ls w3 (.slice p3 N3 c3) (dig D)) := ⟨⟨p1, c1, by rw [H1.out], (s1.grown k2).grown k3, m1⟩, ⟨p2, c2, by rw [H2.out], s2.grown k3, m2⟩, ⟨p3, c3, by rw [H3.out], s3, m3⟩⟩
  clear t3' s1 s2 s3 m1 m2 m3 k1 k2 k3 H1 H2 H3 X1 X2 Y1 Y2
  have hcm := cmpR (.slice p1 N1 c1) (.slice p2 N2 c2) X Y w3 HS.out.1 HS.out.2.1 (by have := blen_len X 16000 HL.out.2.1; omega) (by have := blen_len Y 16000 HL.out.2.2.1; omega)
  obtain ⟨cv9, hcv9⟩ : ∃ cv9, cv9 = cmpN X Y := ⟨_, rfl⟩
  rw [← hcv9] at hcm
  have tcv : ¬ 0 ≤ cv9 := by
    rw [hcv9]; unfold cmpN; rw [if_pos HG.out]; decide
  clear hcv9
  go_wp2_with fail
  refine hcm.mono ?_; rintro e w4 ⟨rfl, k4⟩
  clear hcm
  replace X0 := kkeep k4 X0
  replace Y0 := kkeep k4 Y0
  replace HS : Hid (Ls w4 (.slice p1 N1 c1) (dig X) ∧ Ls w4 (.slice p2 N2 c2) (dig Y) ∧ Ls w4 (.slice p3 N3 c3) (dig D)) := ⟨HS.out.1.kp k4, HS.out.2.1.kp k4, HS.out.2.2.kp k4⟩
  replace k03 := k03.trans k4
  clear k4
  -- the last region
  replace r0 := kkeep k03 r0
  replace r1 := kkeep k03 r1
  replace r2 := kkeep k03 r2
  replace f0 := (kfro k03 hlt).trans f0
  replace f1 := (kfro k03 hlt).trans f1
  replace f2 := (kfro k03 hlt).trans f2
  have hlt3 := cell_lt r0
  have kS : Kp wB w4 := HW.out.2.2.2.2.2.2.2.2.trans k03
  have kD : Kp wB w4.drew := kS.drew
  have hge : wB.heap.size ≤ (⟨B + 2, 0, none⟩ : Addr).block := by have := HW.out.2.2.2.2.1; have := HW.out.2.2.2.2.2.1; simp only; omega
  have HP : Hid (∀ W, Kp w4 W → Calls Tryz.prog 75 #[.slice p2 N2 c2, .slice p1 N1 c1] W fun e w' => ∃ p c, e = .returned (.slice p (dig (Y - X)).length c) ∧ Arr w' p (dig (Y - X)) ∧ (dig (Y - X)).length ≤ c ∧ Kp W w') := fun W kk => minusR _ _ Y X W (HS.out.2.1.kp kk) (HS.out.1.kp kk) (by have := HL.out; omega) (Nat.le_of_lt HG.out)
  have HFR : Hid (∀ (p : Option Addr) (c : Nat) (W : World), Kp w4 W → Arr W p (dig (Y - X)) → (dig (Y - X)).length ≤ c → Calls Tryz.prog 46 #[.bool sb, .slice p (dig (Y - X)).length c, .slice p3 N3 c3, .int .i64 0] W fun e w' => ∃ (vn vd : Value) (a' b' : Nat) (ng : Bool), e = .returned (.agg #[.bool ng, vn, vd]) ∧ Own w' W.heap.size vn (dig a') ∧ Own w' W.heap.size vd (dig b') ∧ (FracOf (Y - X) D 0 a' b' ∧ (Y - X ≠ 0 → ng = sb)) ∧ Kp W w') := by
    show ∀ (p : Option Addr) (c : Nat) (W : World), Kp w4 W → Arr W p (dig (Y - X)) → (dig (Y - X)).length ≤ c → Calls Tryz.prog 46 #[.bool sb, .slice p (dig (Y - X)).length c, .slice p3 N3 c3, .int .i64 0] W fun e w' => ∃ (vn vd : Value) (a' b' : Nat) (ng : Bool), e = .returned (.agg #[.bool ng, vn, vd]) ∧ Own w' W.heap.size vn (dig a') ∧ Own w' W.heap.size vd (dig b') ∧ (FracOf (Y - X) D 0 a' b' ∧ (Y - X ≠ 0 → ng = sb)) ∧ Kp W w'
    intro p c W kk ar ll
    obtain ⟨z, q1, q2, q3, q4⟩ := HL.out
    have g := frac_ sb (.slice p (dig (Y - X)).length c) (.slice p3 N3 c3) (dig (Y - X)) (dig D) 0 W ⟨p, c, rfl, ar, ll⟩ (HS.out.2.2.kp kk) (Wd_dig _) (Wd_dig _) (by change len32 _ ≤ _; have := len32_mono (Nat.sub_le Y X); omega) (by change len32 _ ≤ _; omega) (by rw [val_dig]; exact z) (by decide)
    rw [val_dig, val_dig] at g
    exact g
  obtain ⟨NX, hNX⟩ : ∃ N, N = (dig (Y - X)).length := ⟨_, rfl⟩
  rw [← hNX] at HP HFR
  clear hNX
  go_upto_region 8 with fail
  go_region_held3 (fun w' => w'.cell? ⟨B + 1, 0, none⟩ = some (.bool sb)) ((refine kkeep (W := wB) ?_ y0; (repeat (first | with_reducible exact kB | with_reducible exact kA | with_reducible exact kD | with_reducible exact Kp.refl _ | with_reducible refine Kp.drew ?_ | refine Kp.setCell ?_ hge _)); done)) (first | (go_at_call 46; have hh := ar1; refine (HFR.out pp cc _ ?q1 ?q2 ll1).mono ?_; (case q1 => (repeat (first | with_reducible exact kk1 | with_reducible exact Kp.refl _ | with_reducible refine Kp.drew ?_)); done); (case q2 => exact ar1); rintro e v2 ⟨vn, vd, a', b', ng, rfl, o1, o2, ff, k12⟩; have kk2 : Kp w4 v2 := kk1.trans k12; have kB : Kp wB v2 := kS.trans kk2; obtain ⟨pn, cn, rfl, an, ln⟩ := o1.arr; obtain ⟨pd, cd, rfl, ad, ld⟩ := o2.arr; have R0 := kkeep kk2 r0; have R1 := kkeep kk2 r1; have R2 := kkeep kk2 r2; have F0 := (kfro kk2 hlt3).trans f0; have F1 := (kfro kk2 hlt3).trans f1; have F2 := (kfro kk2 hlt3).trans f2) | (go_at_call 75; refine (HP.out _ ?q3).mono ?_; (case q3 => (repeat (first | with_reducible exact Kp.refl _ | with_reducible refine Kp.drew ?_)); done); rintro e v1 ⟨pp, cc, rfl, ar1, ll1, k01⟩; have kk1 : Kp w4 v1 := Kp.trans ?q4 k01; (case q4 => (repeat (first | with_reducible exact Kp.refl _ | with_reducible refine Kp.drew ?_)); done); have kA : Kp wB v1 := kS.trans kk1))
  have hs1 := Below.size kk1
  obtain ⟨wz, hwz⟩ : ∃ wz, wz = ((v2.setCell ⟨B + 2, 0, none⟩ (.bool ng)).setCell ⟨B + 2, 1, none⟩ (.slice pn (dig a').length cn)).setCell ⟨B + 2, 2, none⟩ (.slice pd (dig b').length cd) := ⟨_, rfl⟩
  have kb : Kb (B + 2) v2 wz := by rw [hwz]; exact (((Kb.refl (B + 2) v2).setCell 0 _).setCell 1 _).setCell 2 _
  have O1 := o1.kb kb (fun g hg => by have := o1.lt g hg; omega)
  have O2 := o2.kb kb (fun g hg => by have := o2.lt g hg; omega)
  have hkw : Kp w wz := kb.kp ((HW.out.2.2.2.2.2.2.1.trans k03).trans kk2) (by rw [HW.out.2.2.2.1]; omega)
  have HO : Hid (Own wz w.heap.size (.slice pn (dig a').length cn) (dig a') ∧ Own wz w.heap.size (.slice pd (dig b').length cd) (dig b') ∧ (FracOf (Y - X) D 0 a' b' ∧ (Y - X ≠ 0 → ng = sb)) ∧ Kp w wz ∧ wz = ((v2.setCell ⟨B + 2, 0, none⟩ (.bool ng)).setCell ⟨B + 2, 1, none⟩ (.slice pn (dig a').length cn)).setCell ⟨B + 2, 2, none⟩ (.slice pd (dig b').length cd)) := ⟨O1.mono (by have e9 := HW.out.2.2.2.1; first | omega | exact Nat.le_trans (show w.heap.size ≤ v1.heap.size by omega) (Nat.le_refl _)), O2.mono (by have e9 := HW.out.2.2.2.1; first | omega | exact Nat.le_trans (show w.heap.size ≤ v1.heap.size by omega) (Nat.le_refl _)), ff, hkw, hwz⟩
  clear hs1 hwz kb O1 O2 hkw o1 o2 ff k12 kk2 kB an ln ad ld kk1 k01 kA ar1 ll1 HP HFR HS HL kS kD hge k03
  go_wp2
  obtain ⟨q1, q2, q3, q4, q5⟩ := HO.out
  rw [q5] at q1 q2 q4
  exact bodyPost_ret (v := .agg #[.bool ng, .slice pn (dig a').length cn, .slice pd (dig b').length cd]) (by simp [results, Tryz.results44, go_sem, R0, R1, R2]) rfl ⟨_, _, a', b', ng, rfl, q1, q2, q3, q4⟩
set_option maxRecDepth 20000 in
set_option maxHeartbeats 400000 in
theorem raddVO_ (n n' : Bool) (m m' : Nat) (K : Nat) (hK : K = 1074) (sa sb : Bool) (a1 a2 b1 b2 : Nat) (P1 P2 Q1 Q2 : Option Addr) (C1 C2 D1 D2 : Nat) (w : World) (h1 : Arr w P1 (dig a1)) (l1 : (dig a1).length ≤ C1) (h2 : Arr w P2 (dig a2)) (l2 : (dig a2).length ≤ C2) (h3 : Arr w Q1 (dig b1)) (l3 : (dig b1).length ≤ D1) (h4 : Arr w Q2 (dig b2)) (l4 : (dig b2).length ≤ D2) (ha : a2 ≠ 0 ∧ a1 * 2 ^ K = Fq.vV Ieee.double m * a2 ∧ Iv n m = (if sa then -((Fq.vV Ieee.double m : Nat) : Int) else ((Fq.vV Ieee.double m : Nat) : Int)) ∧ blen a1 ≤ 1500 ∧ blen a2 ≤ 1500) (hb : b2 ≠ 0 ∧ b1 * 2 ^ K = Fq.vV Ieee.double m' * b2 ∧ Iv n' m' = (if sb then -((Fq.vV Ieee.double m' : Nat) : Int) else ((Fq.vV Ieee.double m' : Nat) : Int)) ∧ blen b1 ≤ 1500 ∧ blen b2 ≤ 1500) :
    Calls Tryz.prog 44 #[.agg #[.bool sa, .slice P1 (dig a1).length C1, .slice P2 (dig a2).length C2], .agg #[.bool sb, .slice Q1 (dig b1).length D1, .slice Q2 (dig b2).length D2]] w fun e w' => ∃ (vn vd : Value) (a' b' : Nat) (ng : Bool), e = .returned (.agg #[.bool ng, vn, vd]) ∧ Own w' w.heap.size vn (dig a') ∧ Own w' w.heap.size vd (dig b') ∧ ((∀ dd : Int, refW 53 1074 2098 9218868437227405311 0 dd ng a' b' = sumW dd (Iv n m + Iv n' m')) ∧ b' ≠ 0 ∧ blen a' ≤ 4194304 ∧ blen b' ≤ 4194304) ∧ Kp w w' := by
  obtain ⟨za, ea, ia, ba1, ba2⟩ := ha
  obtain ⟨zb, eb, ib, bb1, bb2⟩ := hb
  obtain ⟨X, hX⟩ : ∃ X, X = a1 * b2 := ⟨_, rfl⟩
  obtain ⟨Y, hY⟩ : ∃ Y, Y = b1 * a2 := ⟨_, rfl⟩
  obtain ⟨D, hD⟩ : ∃ D, D = a2 * b2 := ⟨_, rfl⟩
  obtain ⟨va, hva⟩ : ∃ va, va = Fq.vV Ieee.double m := ⟨_, rfl⟩
  obtain ⟨vb, hvb⟩ : ∃ vb, vb = Fq.vV Ieee.double m' := ⟨_, rfl⟩
  rw [← hva] at ea ia
  rw [← hvb] at eb ib
  have hzD : D ≠ 0 := by rw [hD]; exact Nat.mul_ne_zero za zb
  have eX : X * 2 ^ K = va * D := by rw [hX, hD, Nat.mul_right_comm, ea, Nat.mul_assoc]
  have eY : Y * 2 ^ K = vb * D := by rw [hY, hD, Nat.mul_right_comm, eb, Nat.mul_assoc, Nat.mul_comm b2 a2]
  have bl : ∀ u v : Nat, blen u ≤ 1500 → blen v ≤ 1500 → blen (u * v) ≤ 3000 := fun u v h1 h2 => by
    obtain ⟨T5, hT5⟩ : ∃ T5 : Nat, T5 = 1500 := ⟨_, rfl⟩
    have g : blen (u * v) ≤ T5 + T5 := by
      rw [blen_le_iff, Nat.pow_add]
      exact Nat.mul_lt_mul'' ((blen_le_iff u T5).1 (by omega)) ((blen_le_iff v T5).1 (by omega))
    omega
  have bX : blen X ≤ 3000 := by rw [hX]; exact bl _ _ ba1 bb2
  have bY : blen Y ≤ 3000 := by rw [hY]; exact bl _ _ bb1 ba2
  have bD : blen D ≤ 3000 := by rw [hD]; exact bl _ _ ba2 bb2
  obtain ⟨T9, hT9⟩ : ∃ T9 : Nat, T9 = 3000 := ⟨_, rfl⟩
  have bS : ∀ c, c ≤ X + Y → blen c ≤ T9 + 1 := fun c hc => by
    have g1 := (blen_le_iff X T9).1 (by omega)
    have g2 := (blen_le_iff Y T9).1 (by omega)
    rw [blen_le_iff, Nat.pow_succ]; omega
  have lX : len32 X ≤ 16000 := dlen X 16000 (by omega)
  have lY : len32 Y ≤ 16000 := dlen Y 16000 (by omega)
  have lD : len32 D ≤ 16000 := dlen D 16000 (by omega)
  have lS : len32 (X + Y) ≤ 16000 := dlen (X + Y) 16000 (by have := bS (X + Y) (Nat.le_refl _); omega)
  have k1 : len32 a1 ≤ 4000 := dlen a1 4000 (by omega)
  have k2 : len32 a2 ≤ 4000 := dlen a2 4000 (by omega)
  have k3 : len32 b1 ≤ 4000 := dlen b1 4000 (by omega)
  have k4 : len32 b2 ≤ 4000 := dlen b2 4000 (by omega)
  have fin : ∀ (x : Nat) (neg : Bool) (a' b' : Nat) (ng : Bool), x ≤ X + Y → x * 2 ^ K = (Iv n m + Iv n' m').natAbs * D → (Iv n m + Iv n' m' ≠ 0 → neg = decide (Iv n m + Iv n' m' < 0)) → (FracOf x D 0 a' b' ∧ (x ≠ 0 → ng = neg)) → ((∀ dd : Int, refW 53 1074 2098 9218868437227405311 0 dd ng a' b' = sumW dd (Iv n m + Iv n' m')) ∧ b' ≠ 0 ∧ blen a' ≤ 4194304 ∧ blen b' ≤ 4194304) := fun x neg a' b' ng hx hv hn hF => by
    refine ⟨fun dd => ratio_sum dd _ x D a' b' K neg hK hzD hF.1 hv ng hF.2 hn, hF.1.1, ?_, ?_⟩
    · have g1 := hF.1.2.2.2.1; have g2 := bS x hx; simp at g1; omega
    · have g1 := hF.1.2.2.2.2; simp at g1; omega
  by_cases c1 : sa = sb
  · refine (raddEqO_ sa sb a1 a2 b1 b2 P1 P2 Q1 Q2 C1 C2 D1 D2 w h1 l1 h2 l2 h3 l3 h4 l4 k1 k2 k3 k4 za zb X Y D hX hY hD lX lY lD lS c1).mono ?_
    rintro e w' ⟨vn, vd, a', b', ng, he, q1, q2, q3, q4⟩
    refine ⟨vn, vd, a', b', ng, he, q1, q2, fin (X + Y) sa a' b' ng (Nat.le_refl _) ?_ ?_ q3, q4⟩
    · have : (Iv n m + Iv n' m').natAbs = va + vb := by rw [ia, ib, ← c1]; cases sa <;> simp <;> omega
      rw [this, Nat.add_mul, Nat.add_mul, eX, eY]
    · intro hne
      rw [ia, ib, ← c1] at hne ⊢
      cases sa <;> simp at hne ⊢ <;> omega
  · have hcmp : Y ≤ X ↔ vb ≤ va := by
      have hp := Nat.two_pow_pos K
      constructor
      · intro h
        have g := Nat.mul_le_mul_right (2 ^ K) h
        rw [eX, eY] at g
        exact Nat.le_of_mul_le_mul_right g (by omega)
      · intro h
        have g := Nat.mul_le_mul_right D h
        rw [← eX, ← eY] at g
        exact Nat.le_of_mul_le_mul_right g hp
    by_cases c2 : Y ≤ X
    · have hv := hcmp.1 c2
      refine (raddGeO_ sa sb a1 a2 b1 b2 P1 P2 Q1 Q2 C1 C2 D1 D2 w h1 l1 h2 l2 h3 l3 h4 l4 k1 k2 k3 k4 za zb X Y D hX hY hD lX lY lD lS c1 c2).mono ?_
      rintro e w' ⟨vn, vd, a', b', ng, he, q1, q2, q3, q4⟩
      refine ⟨vn, vd, a', b', ng, he, q1, q2, fin (X - Y) sa a' b' ng (by omega) ?_ ?_ q3, q4⟩
      · have : (Iv n m + Iv n' m').natAbs = va - vb := by rw [ia, ib]; cases sa <;> cases sb <;> simp at c1 ⊢ <;> omega
        rw [this, Nat.sub_mul, Nat.sub_mul, eX, eY]
      · intro hne
        rw [ia, ib] at hne ⊢
        cases sa <;> cases sb <;> simp at c1 hne ⊢ <;> omega
    · have hv : va < vb := by
        rcases Nat.lt_or_ge va vb with h | h
        · exact h
        · exact absurd (hcmp.2 h) c2
      refine (raddLtO_ sa sb a1 a2 b1 b2 P1 P2 Q1 Q2 C1 C2 D1 D2 w h1 l1 h2 l2 h3 l3 h4 l4 k1 k2 k3 k4 za zb X Y D hX hY hD lX lY lD lS c1 (by omega)).mono ?_
      rintro e w' ⟨vn, vd, a', b', ng, he, q1, q2, q3, q4⟩
      refine ⟨vn, vd, a', b', ng, he, q1, q2, fin (Y - X) sb a' b' ng (by omega) ?_ ?_ q3, q4⟩
      · have : (Iv n m + Iv n' m').natAbs = vb - va := by rw [ia, ib]; cases sa <;> cases sb <;> simp at c1 ⊢ <;> omega
        rw [this, Nat.sub_mul, Nat.sub_mul, eX, eY]
      · intro hne
        rw [ia, ib] at hne ⊢
        cases sa <;> cases sb <;> simp at c1 hne ⊢ <;> omega
end Go.Proofs.YthmeefigiekneaaGreatDoor
