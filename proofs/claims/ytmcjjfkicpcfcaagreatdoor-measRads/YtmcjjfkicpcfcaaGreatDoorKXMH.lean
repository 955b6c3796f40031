import Derived.Test.YtmcjjfkicpcfcaaGreatDoorProg
import Derived.Test.YtmcjjfkicpcfcaaGreatDoorKXA0
import Derived.Test.YtmcjjfkicpcfcaaGreatDoorKXM
import Derived.Test.YtmcjjfkicpcfcaaGreatDoorKXY
import Derived.Test.YtmcjjfkicpcfcaaGreatDoorKXQF
import Derived.Test.YtmcjjfkicpcfcaaGreatDoorKQA
import Derived.Test.YtmcjjfkicpcfcaaGreatDoorKQP
import Derived.Test.YtmcjjfkicpcfcaaGreatDoorKXQU
import Derived.Test.YtmcjjfkicpcfcaaGreatDoorKQB
import Derived.Test.YtmcjjfkicpcfcaaGreatDoorKQBT
import Derived.Test.YtmcjjfkicpcfcaaGreatDoorKQJd
import Derived.Test.YtmcjjfkicpcfcaaGreatDoorKXEA
import Derived.Test.YtmcjjfkicpcfcaaGreatDoorKXEE
import Derived.Test.YtmcjjfkicpcfcaaGreatDoorKMR7Q
import Derived.Test.YtmcjjfkicpcfcaaGreatDoorKXMR
import Derived.Test.YtmcjjfkicpcfcaaGreatDoorKXM3
import Derived.Test.YtmcjjfkicpcfcaaGreatDoorKXO
import Derived.Test.YtmcjjfkicpcfcaaGreatDoorKXO3
import Derived.Test.YtmcjjfkicpcfcaaGreatDoorKXT
import Derived.Test.YtmcjjfkicpcfcaaGreatDoorKHB
import Derived.Test.YtmcjjfkicpcfcaaGreatDoorKLX
import Derived.Test.YtmcjjfkicpcfcaaGreatDoorKRX
import Derived.Test.YtmcjjfkicpcfcaaGreatDoorKXRL
import Derived.Test.YtmcjjfkicpcfcaaGreatDoorKXCO
import Derived.Test.YtmcjjfkicpcfcaaGreatDoorKLN
import Derived.Test.YtmcjjfkicpcfcaaGreatDoorKXRN
import Derived.Test.YtmcjjfkicpcfcaaGreatDoorKW4
import Derived.Test.YtmcjjfkicpcfcaaGreatDoorKXBY
import Derived.Test.YtmcjjfkicpcfcaaGreatDoorKXTZ
import Derived.Test.YtmcjjfkicpcfcaaGreatDoorKXG1
import Derived.Test.YtmcjjfkicpcfcaaGreatDoorKNSm
import Derived.Test.YtmcjjfkicpcfcaaGreatDoorKXH2Q
import Derived.Test.YtmcjjfkicpcfcaaGreatDoorKXG4
import Derived.Test.YtmcjjfkicpcfcaaGreatDoorKXS1
import Derived.Test.YtmcjjfkicpcfcaaGreatDoorKXS6
import Derived.Test.YtmcjjfkicpcfcaaGreatDoorKXMW
import Derived.Test.YtmcjjfkicpcfcaaGreatDoorKXET
import Derived.Test.YtmcjjfkicpcfcaaGreatDoorKXEC
import Derived.Test.YtmcjjfkicpcfcaaGreatDoorKXMV
import Derived.Test.YtmcjjfkicpcfcaaGreatDoorKXS4
import Derived.Test.YtmcjjfkicpcfcaaGreatDoorKXS8
import Derived.WalkKit
import Derived.ProofKit
import Derived.RowKit3
import Derived.WalkSpells
import Derived.StillTactics
import Derived.Deep.QuietTactic
import Derived.BigQuiet
import Derived.Below
import Derived.Deep.OwnRows
import Derived.OwnWalk
import Derived.Laws.BitsAllLaws
import Derived.Laws.Slices
import Derived.Laws.Bits64b
import Derived.Laws.FloatArith
import Derived.Deep.RegionHeld3
namespace Go.Proofs.YtmcjjfkicpcfcaaGreatDoor
open Go.RowKit
theorem dig_two6 : dig 2 = [2] := by decide +kernel
/-- the ratio 2 -/
def I8 (base : Nat) (w : World) (s : Bool) (p : Option Addr) (l c : Nat) (q : Option Addr) (k d : Nat) : Prop := ∃ b, Own w base (.slice p l c) (dig (2 * b)) ∧ Own w base (.slice q k d) (dig b) ∧ s = false ∧ b ≠ 0 ∧ blen b ≤ 10
theorem I8.kp {base : Nat} {w : World} {s : Bool} {p : Option Addr} {l c : Nat} {q : Option Addr} {k d : Nat} {w' : World} (h : I8 base w s p l c q k d) (g : Kp w w') : I8 base w' s p l c q k d := by
  obtain ⟨b, h1, h2, h3⟩ := h
  exact ⟨b, h1.kp g, h2.kp g, h3⟩
theorem I8.mono {base : Nat} {w : World} {s : Bool} {p : Option Addr} {l c : Nat} {q : Option Addr} {k d : Nat} {base' : Nat} (h : I8 base w s p l c q k d) (g : base' ≤ base) : I8 base' w s p l c q k d := by
  obtain ⟨b, h1, h2, h3⟩ := h
  exact ⟨b, h1.mono g, h2.mono g, h3⟩
theorem I8.set {base : Nat} {w : World} {s : Bool} {p : Option Addr} {l c : Nat} {q : Option Addr} {k d : Nat} (h : I8 base w s p l c q k d) {x : Addr} (hx : x.block < base) (u : Value) : I8 base (w.setCell x u) s p l c q k d := by
  obtain ⟨b, h1, h2, h3⟩ := h
  exact ⟨b, h1.setOther hx u, h2.setOther hx u, h3⟩
set_option maxRecDepth 20000 in
set_option maxHeartbeats 1000000 in
theorem int2_ (w : World) : Calls Tryz.prog 35 #[.int .i64 2] w fun e w' => ∃ (s : Bool) (p : Option Addr) (l c : Nat) (q : Option Addr) (k d : Nat), e = .returned (.agg #[.bool s, .slice p l c, .slice q k d]) ∧ I8 w.heap.size w' s p l c q k d ∧ Kp w w' := by
  obtain ⟨B, hB⟩ : ∃ B, B = w.heap.size := ⟨_, rfl⟩
  obtain ⟨w0, hw0⟩ : ∃ w0, w0 = w.alloc (.cells #[.bool false, .slice none 0 0, .slice none 0 0] 49) := ⟨_, rfl⟩
  have kw : Kp w w0 := by rw [hw0]; exact (Kp.refl w).alloc _
  have r0 : w0.cell? ⟨B, 0, none⟩ = some (.bool false) := by rw [hw0, hB]; simp [go_sem]
  have r1 : w0.cell? ⟨B, 1, none⟩ = some (.slice none 0 0) := by rw [hw0, hB]; simp [go_sem]
  have r2 : w0.cell? ⟨B, 2, none⟩ = some (.slice none 0 0) := by rw [hw0, hB]; simp [go_sem]
  have f0 : w0.frozen? ⟨B, 0, none⟩ = false := by rw [hw0, hB]; simp [go_sem]
  have f1 : w0.frozen? ⟨B, 1, none⟩ = false := by rw [hw0, hB]; simp [go_sem]
  have f2 : w0.frozen? ⟨B, 2, none⟩ = false := by rw [hw0, hB]; simp [go_sem]
  have hlt := cell_lt r0
  have hs := rsmall_ 2 (by decide) w0
  have HW : Hid (w0 = w.alloc (.cells #[.bool false, .slice none 0 0, .slice none 0 0] 49) ∧ B = w.heap.size ∧ Kp w w0) := ⟨hw0, hB, kw⟩
  clear hw0 hB kw
  go_enter Tryz.func35, Tryz.ntmps35
  go_wp2_with fail
  rw [← HW.out.2.1]
  try rw [← HW.out.1]
  refine hs.mono ?_; rintro e w1 ⟨v, rfl, ho, k1⟩
  obtain ⟨pv, cv, rfl, hav, hcv⟩ := ho.arr
  obtain ⟨L, hL⟩ : ∃ L, L = (dig 2).length := ⟨_, rfl⟩
  rw [← hL]
  obtain ⟨g4, hg4⟩ : ∃ g4, g4 = w1.heap.size := ⟨_, rfl⟩
  obtain ⟨w4, hw4⟩ : ∃ w4, w4 = w1.alloc (.cells #[.int .u32 1] 64) := ⟨_, rfl⟩
  have k4 : Kp w1 w4 := by rw [hw4]; exact (Kp.refl _).alloc _
  have ar4 : Arr w4 (some ⟨g4, 0, none⟩) (dig 1) := by
    have h := (row1 w1 1).all rfl
    rw [← hw4, ← hg4] at h
    rw [dig_one6]
    exact h
  have h := frac_ false (.slice pv (dig 2).length cv) (.slice (some ⟨g4, 0, none⟩) (dig 1).length 1) (dig 2) (dig 1) 0 w4 ⟨pv, cv, rfl, hav.grown k4, hcv⟩ ⟨some ⟨g4, 0, none⟩, 1, rfl, ar4, by rw [dig_one6]; decide⟩ (Wd_dig _) (Wd_dig _) (by rw [dig_two6]; decide) (by rw [dig_one6]; decide) (by rw [val_dig]; decide) (by decide)
  rw [val_dig, val_dig] at h
  rw [show (dig 1).length = 1 from by rw [dig_one6]; rfl] at h
  rw [← hL] at h
  have k04 := k1.trans k4
  have HG : Hid (g4 = w1.heap.size ∧ w4 = w1.alloc (.cells #[.int .u32 1] 64)) := ⟨hg4, hw4⟩
  replace r0 := kkeep k04 r0
  replace r1 := kkeep k04 r1
  replace r2 := kkeep k04 r2
  replace f0 := (kfro k04 hlt).trans f0
  replace f1 := (kfro k04 hlt).trans f1
  replace f2 := (kfro k04 hlt).trans f2
  have HK : Hid (Kp w0 w4 ∧ B < w0.heap.size) := ⟨k04, hlt⟩
  have hlt4 := cell_lt r0
  clear hs ho hav hcv hL hg4 hw4 k4 ar4 k1 k04 hlt
  go_wp2_with fail
  rw [← HG.out.1, ← HG.out.2]
  refine h.mono ?_; rintro e w5 ⟨vn, vd, a', b', ng, rfl, o1, o2, ff, k5⟩
  obtain ⟨pn, cn, rfl, an, ln⟩ := o1.arr
  obtain ⟨pd, cd, rfl, ad, ld⟩ := o2.arr
  replace r0 := kkeep k5 r0
  replace r1 := kkeep k5 r1
  replace r2 := kkeep k5 r2
  replace f0 := (kfro k5 hlt4).trans f0
  replace f1 := (kfro k5 hlt4).trans f1
  replace f2 := (kfro k5 hlt4).trans f2
  have hp : I8 w4.heap.size w5 ng pn (dig a').length cn pd (dig b').length cd := by
    have e := frac_exact9 2 1 a' b' 0 2 ff.1 (by decide) (by decide)
    rw [Nat.pow_zero, Nat.mul_one] at e
    refine ⟨b', by rw [← e]; exact o1, o2, ff.2 (by decide), ff.1.1, ?_⟩
    have := ff.1.2.2.2.2
    have h2 : blen 1 = 1 := blen_uniq 1 0 (by decide) (by decide)
    simp at this; omega
  have hq := (((hp.set (x := ⟨B, 0, none⟩) hlt4 (.bool ng)).set (x := ⟨B, 1, none⟩) hlt4 (.slice pn (dig a').length cn)).set (x := ⟨B, 2, none⟩) hlt4 (.slice pd (dig b').length cd)).mono (base' := w.heap.size) (by have h1 := Below.size HW.out.2.2; have h2 := Below.size HK.out.1; omega)
  have hkw : Kp w (((w5.setCell ⟨B, 0, none⟩ (.bool ng)).setCell ⟨B, 1, none⟩ (.slice pn (dig a').length cn)).setCell ⟨B, 2, none⟩ (.slice pd (dig b').length cd)) := by
    have hB := HW.out.2.1
    exact ((((HW.out.2.2.trans HK.out.1).trans k5).setCell (by rw [hB]; exact Nat.le_refl _) _).setCell (by rw [hB]; exact Nat.le_refl _) _).setCell (by rw [hB]; exact Nat.le_refl _) _
  generalize (dig a').length = La at hq hkw ⊢
  generalize (dig b').length = Lb at hq hkw ⊢
  have HO : Hid (_ ∧ _) := ⟨hq, hkw⟩
  clear h hp hq hkw o1 o2 ff k5 an ln ad ld hlt4 HG
  go_wp2
  exact bodyPost_ret (v := .agg #[.bool ng, .slice pn La cn, .slice pd Lb cd]) (by simp [results, Tryz.results35, go_sem, r0, r1, r2]) rfl ⟨ng, pn, La, cn, pd, Lb, cd, rfl, HO.out.1, HO.out.2⟩
set_option maxRecDepth 20000 in
set_option maxHeartbeats 1000000 in
theorem rquo9_ (sa sb : Bool) (a1 a2 b1 b2 : Nat) (P1 P2 Q1 Q2 : Option Addr) (C1 C2 D1 D2 : Nat) (w : World) (h1 : Arr w P1 (dig a1)) (l1 : (dig a1).length ≤ C1) (h2 : Arr w P2 (dig a2)) (l2 : (dig a2).length ≤ C2) (h3 : Arr w Q1 (dig b1)) (l3 : (dig b1).length ≤ D1) (h4 : Arr w Q2 (dig b2)) (l4 : (dig b2).length ≤ D2) (k1 : len32 a1 ≤ 4000) (k2 : len32 a2 ≤ 4000) (k3 : len32 b1 ≤ 4000) (k4 : len32 b2 ≤ 4000) (z2 : a2 ≠ 0) (z4 : b1 ≠ 0) (X D : Nat) (hX : X = a1 * b2) (hD : D = a2 * b1) (lX : len32 X ≤ 16000) (lD : len32 D ≤ 16000) :
    Calls Tryz.prog 34 #[.agg #[.bool sa, .slice P1 (dig a1).length C1, .slice P2 (dig a2).length C2], .agg #[.bool sb, .slice Q1 (dig b1).length D1, .slice Q2 (dig b2).length D2]] w fun e w' => ∃ (vn vd : Value) (a' b' : Nat) (ng : Bool), e = .returned (.agg #[.bool ng, vn, vd]) ∧ Ls w' vn (dig a') ∧ Ls w' vd (dig b') ∧ (FracOf X D 0 a' b' ∧ (X ≠ 0 → ng = (sa ^^ sb))) ∧ Kp w w' := by
  have hz : D ≠ 0 := by rw [hD]; exact Nat.mul_ne_zero z2 z4
  obtain ⟨E1, g1⟩ : ∃ E, E = (dig a1).length := ⟨_, rfl⟩
  obtain ⟨E2, g2⟩ : ∃ E, E = (dig a2).length := ⟨_, rfl⟩
  obtain ⟨E3, g3⟩ : ∃ E, E = (dig b1).length := ⟨_, rfl⟩
  obtain ⟨E4, g4⟩ : ∃ E, E = (dig b2).length := ⟨_, rfl⟩
  rw [← g1, ← g2, ← g3, ← g4]
  obtain ⟨B, hB⟩ : ∃ B, B = w.heap.size := ⟨_, rfl⟩
  obtain ⟨wA, hwA⟩ : ∃ wA, wA = w.alloc (.cells #[.bool sa, .slice P1 E1 C1, .slice P2 E2 C2] 49) := ⟨_, rfl⟩
  obtain ⟨wB, hwB⟩ : ∃ wB, wB = wA.alloc (.cells #[.bool sb, .slice Q1 E3 D1, .slice Q2 E4 D2] 49) := ⟨_, rfl⟩
  obtain ⟨w0, hw0⟩ : ∃ w0, w0 = wB.alloc (.cells #[.bool false, .slice none 0 0, .slice none 0 0] 49) := ⟨_, rfl⟩
  have sA : wA.heap.size = B + 1 := by rw [hwA, hB]; simp
  have sB : wB.heap.size = B + 2 := by rw [hwB]; simp [sA]
  have kAB : Kp wA wB := by rw [hwB]; exact (Kp.refl wA).alloc _
  have x0 : wB.cell? ⟨B, 0, none⟩ = some (.bool sa) := kkeep kAB (by rw [hwA, hB]; simp [go_sem])
  have x1 : wB.cell? ⟨B, 1, none⟩ = some (.slice P1 E1 C1) := kkeep kAB (by rw [hwA, hB]; simp [go_sem])
  have x2 : wB.cell? ⟨B, 2, none⟩ = some (.slice P2 E2 C2) := kkeep kAB (by rw [hwA, hB]; simp [go_sem])
  have y0 : wB.cell? ⟨B + 1, 0, none⟩ = some (.bool sb) := by rw [hwB, ← sA]; simp [go_sem]
  have y1 : wB.cell? ⟨B + 1, 1, none⟩ = some (.slice Q1 E3 D1) := by rw [hwB, ← sA]; simp [go_sem]
  have y2 : wB.cell? ⟨B + 1, 2, none⟩ = some (.slice Q2 E4 D2) := by rw [hwB, ← sA]; simp [go_sem]
  have r0 : w0.cell? ⟨B + 2, 0, none⟩ = some (.bool false) := by rw [hw0, ← sB]; simp [go_sem]
  have r1 : w0.cell? ⟨B + 2, 1, none⟩ = some (.slice none 0 0) := by rw [hw0, ← sB]; simp [go_sem]
  have r2 : w0.cell? ⟨B + 2, 2, none⟩ = some (.slice none 0 0) := by rw [hw0, ← sB]; simp [go_sem]
  have f0 : w0.frozen? ⟨B + 2, 0, none⟩ = false := by rw [hw0, ← sB]; simp [go_sem]
  have f1 : w0.frozen? ⟨B + 2, 1, none⟩ = false := by rw [hw0, ← sB]; simp [go_sem]
  have f2 : w0.frozen? ⟨B + 2, 2, none⟩ = false := by rw [hw0, ← sB]; simp [go_sem]
  have kw : Kp w w0 := by rw [hw0, hwB, hwA]; exact (((Kp.refl w).alloc _).alloc _).alloc _
  have kS : Kp wB w0 := by rw [hw0]; exact (Kp.refl wB).alloc _
  have kD : Kp wB w0.drew := kS.drew
  have hge : wB.heap.size ≤ (⟨B + 2, 0, none⟩ : Addr).block := by simp only; omega
  have hlt := cell_lt r0
  have HP1 : Hid (∀ W : World, Kp w0 W → Calls Tryz.prog 52 #[.slice P1 E1 C1, .slice Q2 E4 D2] W fun e w' => ∃ p c, e = .returned (.slice p (dig X).length c) ∧ Arr w' p (dig X) ∧ (dig X).length ≤ c ∧ Kp W w') := by
    show ∀ W : World, Kp w0 W → Calls Tryz.prog 52 #[.slice P1 E1 C1, .slice Q2 E4 D2] W fun e w' => ∃ p c, e = .returned (.slice p (dig X).length c) ∧ Arr w' p (dig X) ∧ (dig X).length ≤ c ∧ Kp W w'
    intro W k
    rw [hX]; exact timesR _ _ a1 b2 W ⟨P1, C1, by rw [g1], h1.grown (kw.trans k), l1⟩ ⟨Q2, D2, by rw [g4], h4.grown (kw.trans k), l4⟩ (by omega) (by omega)
  have HP2 : Hid (∀ W : World, Kp w0 W → Calls Tryz.prog 52 #[.slice P2 E2 C2, .slice Q1 E3 D1] W fun e w' => ∃ p c, e = .returned (.slice p (dig D).length c) ∧ Arr w' p (dig D) ∧ (dig D).length ≤ c ∧ Kp W w') := by
    show ∀ W : World, Kp w0 W → Calls Tryz.prog 52 #[.slice P2 E2 C2, .slice Q1 E3 D1] W fun e w' => ∃ p c, e = .returned (.slice p (dig D).length c) ∧ Arr w' p (dig D) ∧ (dig D).length ≤ c ∧ Kp W w'
    intro W k
    rw [hD]; exact timesR _ _ a2 b1 W ⟨P2, C2, by rw [g2], h2.grown (kw.trans k), l2⟩ ⟨Q1, D1, by rw [g3], h3.grown (kw.trans k), l3⟩ (by omega) (by omega)
  obtain ⟨NX, hNX⟩ : ∃ N, N = (dig X).length := ⟨_, rfl⟩
  obtain ⟨ND, hND⟩ : ∃ N, N = (dig D).length := ⟨_, rfl⟩
  obtain ⟨st, hst⟩ : ∃ st, st = (sa ^^ sb) := ⟨_, rfl⟩
  have hst2 : (sa != sb) = st := by rw [hst]
  have hst3 : (!decide (sa = sb)) = st := by rw [hst]; cases sa <;> cases sb <;> rfl
  have hst4 : (!(sa == sb)) = st := by rw [hst]; cases sa <;> cases sb <;> rfl
  have HFR : Hid (∀ (p : Option Addr) (c : Nat) (q : Option Addr) (d : Nat) (W : World), Kp w0 W → Arr W p (dig X) → (dig X).length ≤ c → Arr W q (dig D) → (dig D).length ≤ d → Calls Tryz.prog 47 #[.bool st, .slice p (dig X).length c, .slice q (dig D).length d, .int .i64 0] W fun e w' => ∃ (vn vd : Value) (a' b' : Nat) (ng : Bool), e = .returned (.agg #[.bool ng, vn, vd]) ∧ Own w' W.heap.size vn (dig a') ∧ Own w' W.heap.size vd (dig b') ∧ (FracOf X D 0 a' b' ∧ (X ≠ 0 → ng = st)) ∧ Kp W w') := by
    show ∀ (p : Option Addr) (c : Nat) (q : Option Addr) (d : Nat) (W : World), Kp w0 W → Arr W p (dig X) → (dig X).length ≤ c → Arr W q (dig D) → (dig D).length ≤ d → Calls Tryz.prog 47 #[.bool st, .slice p (dig X).length c, .slice q (dig D).length d, .int .i64 0] W fun e w' => ∃ (vn vd : Value) (a' b' : Nat) (ng : Bool), e = .returned (.agg #[.bool ng, vn, vd]) ∧ Own w' W.heap.size vn (dig a') ∧ Own w' W.heap.size vd (dig b') ∧ (FracOf X D 0 a' b' ∧ (X ≠ 0 → ng = st)) ∧ Kp W w'
    intro p c q d W kk ar ll ar' ll'
    have g := frac_ st (.slice p (dig X).length c) (.slice q (dig D).length d) (dig X) (dig D) 0 W ⟨p, c, rfl, ar, ll⟩ ⟨q, d, rfl, ar', ll'⟩ (Wd_dig _) (Wd_dig _) (by change len32 _ ≤ _; omega) (by change len32 _ ≤ _; omega) (by rw [val_dig]; exact hz) (by decide)
    rw [val_dig, val_dig] at g
    exact g
  rw [← hNX, ← hND] at HFR
  rw [← hNX] at HP1
  rw [← hND] at HP2
  rw [← hst]
  have HW : Hid (w0 = wB.alloc (.cells #[.bool false, .slice none 0 0, .slice none 0 0] 49) ∧ wB = wA.alloc (.cells #[.bool sb, .slice Q1 E3 D1, .slice Q2 E4 D2] 49) ∧ wA = w.alloc (.cells #[.bool sa, .slice P1 E1 C1, .slice P2 E2 C2] 49) ∧ B = w.heap.size ∧ Kp w w0) := ⟨hw0, hwB, hwA, hB, kw⟩
  clear hNX hND hst hw0 hwB hwA hB sA sB kw kAB h1 l1 h2 l2 h3 l3 h4 l4 k1 k2 k3 k4 z2 z4 hX hD hz lX lD g1 g2 g3 g4
  go_enter Tryz.func34, Tryz.ntmps34
  go_upto_region 1 with fail
  rw [← HW.out.2.2.2.1]
  try rw [← HW.out.2.2.1]
  try rw [← HW.out.2.1]
  try rw [← HW.out.1]
  go_region_held3 (fun w' => w'.cell? ⟨B, 0, none⟩ = some (.bool sa) ∧ w'.cell? ⟨B, 1, none⟩ = some (.slice P1 E1 C1) ∧ w'.cell? ⟨B, 2, none⟩ = some (.slice P2 E2 C2) ∧ w'.cell? ⟨B + 1, 0, none⟩ = some (.bool sb) ∧ w'.cell? ⟨B + 1, 1, none⟩ = some (.slice Q1 E3 D1) ∧ w'.cell? ⟨B + 1, 2, none⟩ = some (.slice Q2 E4 D2)) (refine ⟨kkeep (W := wB) ?_ x0, kkeep (W := wB) ?_ x1, kkeep (W := wB) ?_ x2, kkeep (W := wB) ?_ y0, kkeep (W := wB) ?_ y1, kkeep (W := wB) ?_ y2⟩ <;> ((repeat (first | with_reducible exact kC | with_reducible exact kB | with_reducible exact kA | with_reducible exact kS | with_reducible exact kD | with_reducible exact Kp.refl _ | with_reducible refine Kp.drew ?_ | refine Kp.setCell ?_ hge _)); done)) (first | (go_at_call 47; have hh := ar2; refine (HFR.out pp cc pq cq _ ?q1 ?q2 ll1 ?q3 ll2).mono ?_; (case q1 => ((repeat (first | with_reducible exact kk2 | with_reducible exact kk1 | with_reducible exact Kp.refl _ | with_reducible refine Kp.drew ?_)); done)); (case q2 => exact ar1.grown k12); (case q3 => exact ar2); rintro e v3 ⟨vn, vd, a', b', ng, rfl, o1, o2, ff, k23⟩; have kk3 : Kp w0 v3 := Kp.trans ?q4 k23; (case q4 => ((repeat (first | with_reducible exact kk2 | with_reducible exact kk1 | with_reducible exact Kp.refl _ | with_reducible refine Kp.drew ?_)); done)); have kC : Kp wB v3 := kS.trans kk3; obtain ⟨pn, cn, rfl, an, ln⟩ := o1.arr; obtain ⟨pd, cd, rfl, ad, ld⟩ := o2.arr; have R0 := kkeep kk3 r0; have R1 := kkeep kk3 r1; have R2 := kkeep kk3 r2; have F0 := (kfro kk3 hlt).trans f0; have F1 := (kfro kk3 hlt).trans f1; have F2 := (kfro kk3 hlt).trans f2) | (go_at_call 52; have hh := ar1; refine (HP2.out _ ?q5).mono ?_; (case q5 => ((repeat (first | with_reducible exact kk2 | with_reducible exact kk1 | with_reducible exact Kp.refl _ | with_reducible refine Kp.drew ?_)); done)); rintro e v2 ⟨pq, cq, rfl, ar2, ll2, k12⟩; have kk2 : Kp w0 v2 := Kp.trans ?q7 k12; (case q7 => ((repeat (first | with_reducible exact kk2 | with_reducible exact kk1 | with_reducible exact Kp.refl _ | with_reducible refine Kp.drew ?_)); done)); have kB : Kp wB v2 := kS.trans kk2) | (go_at_call 52; refine (HP1.out _ ?q8).mono ?_; (case q8 => ((repeat (first | with_reducible exact kk2 | with_reducible exact kk1 | with_reducible exact Kp.refl _ | with_reducible refine Kp.drew ?_)); done)); rintro e v1 ⟨pp, cc, rfl, ar1, ll1, k01⟩; have kk1 : Kp w0 v1 := Kp.trans ?q10 k01; (case q10 => ((repeat (first | with_reducible exact kk2 | with_reducible exact kk1 | with_reducible exact Kp.refl _ | with_reducible refine Kp.drew ?_)); done)); have kA : Kp wB v1 := kS.trans kk1))
  have hs1 := Below.size kk2
  obtain ⟨wz, hwz⟩ : ∃ wz, wz = ((v3.setCell ⟨B + 2, 0, none⟩ (.bool ng)).setCell ⟨B + 2, 1, none⟩ (.slice pn (dig a').length cn)).setCell ⟨B + 2, 2, none⟩ (.slice pd (dig b').length cd) := ⟨_, rfl⟩
  have kb : Kb (B + 2) v3 wz := by rw [hwz]; exact (((Kb.refl (B + 2) v3).setCell 0 _).setCell 1 _).setCell 2 _
  have O1 := o1.kb kb (fun g hg => by have := o1.lt g hg; omega)
  have O2 := o2.kb kb (fun g hg => by have := o2.lt g hg; omega)
  have hkw : Kp w wz := kb.kp (HW.out.2.2.2.2.trans kk3) (by rw [HW.out.2.2.2.1]; omega)
  have HO : Hid (Ls wz (.slice pn (dig a').length cn) (dig a') ∧ Ls wz (.slice pd (dig b').length cd) (dig b') ∧ (FracOf X D 0 a' b' ∧ (X ≠ 0 → ng = st)) ∧ Kp w wz ∧ wz = ((v3.setCell ⟨B + 2, 0, none⟩ (.bool ng)).setCell ⟨B + 2, 1, none⟩ (.slice pn (dig a').length cn)).setCell ⟨B + 2, 2, none⟩ (.slice pd (dig b').length cd)) := ⟨O1.ls, O2.ls, ff, hkw, hwz⟩
  clear hs1 hwz kb O1 O2 hkw o1 o2 ff k23 kk3 kC an ln ad ld kk2 k12 kB ar2 ll2 kk1 k01 kA ar1 ll1 HP1 HP2 HFR kS kD hge
  go_wp2
  obtain ⟨q1, q2, q3, q4, q5⟩ := HO.out
  rw [q5] at q1 q2 q4
  exact bodyPost_ret (v := .agg #[.bool ng, .slice pn (dig a').length cn, .slice pd (dig b').length cd]) (by simp [results, Tryz.results34, go_sem, R0, R1, R2]) rfl ⟨_, _, a', b', ng, rfl, q1, q2, q3, q4⟩

/-- a ratio that is rounded to the nearest as the half of V is -/
def HP8 (w : World) (s : Bool) (p : Option Addr) (l c : Nat) (q : Option Addr) (k d : Nat) (V : Int) : Prop := ∃ a b, Ls w (.slice p l c) (dig a) ∧ Ls w (.slice q k d) (dig b) ∧ b ≠ 0 ∧ blen a ≤ 4194304 ∧ blen b ≤ 4194304 ∧ refW 53 1074 2098 9218868437227405311 0 0 s a b = hfW V
theorem vhalf_ (V : Int) (s : Bool) (p : Option Addr) (l c : Nat) (q : Option Addr) (k d : Nat) (s2 : Bool) (p2 : Option Addr) (l2 c2 : Nat) (q2 : Option Addr) (k2 d2 : Nat) (B1 B2 : Nat) (w : World) (h1 : VP B1 w s p l c q k d V) (h2 : I8 B2 w s2 p2 l2 c2 q2 k2 d2) : Calls Tryz.prog 34 #[.agg #[.bool s, .slice p l c, .slice q k d], .agg #[.bool s2, .slice p2 l2 c2, .slice q2 k2 d2]] w fun e w' => ∃ (s3 : Bool) (p3 : Option Addr) (l3 c3 : Nat) (q3 : Option Addr) (k3 d3 : Nat), e = .returned (.agg #[.bool s3, .slice p3 l3 c3, .slice q3 k3 d3]) ∧ HP8 w' s3 p3 l3 c3 q3 k3 d3 V ∧ Kp w w' := by
  obtain ⟨a1, a2, u1, u2, u3⟩ := h1
  obtain ⟨y, v1, v2, v3, v4, v5⟩ := h2
  obtain ⟨K, hK⟩ : ∃ K : Nat, K = 1074 := ⟨_, rfl⟩
  obtain ⟨f1, f2, f3, f4, f5⟩ := u3 K hK
  obtain ⟨P1, C1, e1, x1, y1⟩ := u1.arr
  obtain ⟨P2, C2, e2, x2, y2⟩ := u2.arr
  obtain ⟨Q1, D1, e3, x3, y3⟩ := v1.arr
  obtain ⟨Q2, D2, e4, x4, y4⟩ := v2.arr
  rw [e1, e2, e3, e4, v3]
  have b2 : blen (2 * y) ≤ 12 := by
    rw [blen_le_iff]
    have := (blen_le_iff y 10).1 v5
    have e : (2 : Nat) ^ 12 = 4096 := by decide
    have e' : (2 : Nat) ^ 10 = 1024 := by decide
    omega
  have bl : ∀ u v : Nat, blen u ≤ 100000 → blen v ≤ 12 → blen (u * v) ≤ 100012 := fun u v h1 h2 => by
    obtain ⟨T5, hT5⟩ : ∃ T5 : Nat, T5 = 100000 := ⟨_, rfl⟩
    have g : blen (u * v) ≤ T5 + 12 := by
      rw [blen_le_iff, Nat.pow_add]
      exact Nat.mul_lt_mul'' ((blen_le_iff u T5).1 (by omega)) ((blen_le_iff v 12).1 h2)
    omega
  obtain ⟨X, hX⟩ : ∃ X, X = a1 * y := ⟨_, rfl⟩
  obtain ⟨D, hD⟩ : ∃ D, D = a2 * (2 * y) := ⟨_, rfl⟩
  have bX : blen X ≤ 100012 := by rw [hX]; exact bl _ _ f4 (by omega)
  have bD : blen D ≤ 100012 := by rw [hD]; exact bl _ _ f5 b2
  refine (rquo9_ s false a1 a2 (2 * y) y P1 P2 Q1 Q2 C1 C2 D1 D2 w x1 y1 x2 y2 x3 y3 x4 y4 (dlen a1 4000 (by omega)) (dlen a2 4000 (by omega)) (dlen _ 4000 (by omega)) (dlen y 4000 (by omega)) f1 (by omega) X D hX hD (dlen X 16000 (by omega)) (dlen D 16000 (by omega))).mono ?_
  rintro e w' ⟨vn, vd, a', b', ng, rfl, o1, o2, ⟨hF, hn⟩, g⟩
  obtain ⟨p3, c3, rfl, -, -⟩ := id o1
  obtain ⟨q3, d3, rfl, -, -⟩ := id o2
  refine ⟨ng, p3, _, c3, q3, _, d3, rfl, ⟨a', b', o1, o2, hF.1, ?_, ?_, ?_⟩, g⟩
  · have g1 := hF.2.2.2.1; simp at g1; omega
  · have g1 := hF.2.2.2.2; simp at g1; omega
  · have hsx : (s ^^ false) = s := by cases s <;> rfl
    rw [hsx] at hn
    have h := refW_fin 0 ng s X D a' b' 0 hF hn K hK
    rw [← hK, h]
    unfold hfW
    have hx0 : X = 0 ↔ V = 0 := by
      have hp := Nat.two_pow_pos K
      rw [hX]
      constructor
      · intro h0
        rcases Nat.mul_eq_zero.1 h0 with h1 | h1
        · rw [h1, Nat.zero_mul] at f2
          rcases Nat.mul_eq_zero.1 f2.symm with h2 | h2 <;> omega
        · omega
      · intro h0
        rw [h0, Int.natAbs_zero, Nat.zero_mul] at f2
        rcases Nat.mul_eq_zero.1 f2 with h1 | h1
        · rw [h1, Nat.zero_mul]
        · omega
    by_cases c : X = 0
    · rw [if_pos c, if_pos (hx0.1 c)]
    · have hv : V ≠ 0 := fun h0 => c (hx0.2 h0)
      rw [if_neg c, if_neg hv, ← f3 hv]
      have hd : dirN s 0 = 0 := by unfold dirN; cases s <;> rfl
      have e9 : rV 0 53 X D (0 + 1074) = rU 0 53 V.natAbs 2 := by
        unfold rV
        rw [show ((0 : Int) + 1074).toNat = K from by omega, show (-((0 : Int) + 1074)).toNat = 0 from by omega, Nat.pow_zero, Nat.mul_one]
        apply rU_ratio _ _ _ _ _ _ (by rw [hD]; exact Nat.mul_pos (by omega) (by omega)) (by decide)
        rw [hX, hD, Nat.mul_right_comm a1 y, f2]
        generalize V.natAbs = vv
        rw [Nat.mul_assoc, Nat.mul_assoc, Nat.mul_comm y 2]
      rw [hd, e9]
theorem hbits_ (s : Bool) (p : Option Addr) (l c : Nat) (q : Option Addr) (k d : Nat) (V : Int) (w : World) (h : HP8 w s p l c q k d V) : Calls Tryz.prog 30 #[.int .i64 0, .agg #[.bool s, .slice p l c, .slice q k d]] w fun e w' => e = .returned (.int .u64 ((hfW V : Nat) : Int)) ∧ Kp w w' := by
  obtain ⟨a, b, u1, u2, u3, u4, u5, u6⟩ := h
  have h := rbits_ 0 s (.slice p l c) (.slice q k d) a b w u1 u2 u3 u4 u5
  rw [u6] at h
  exact h
set_option maxRecDepth 20000 in
set_option maxHeartbeats 1000000 in
theorem rmidN_ (X Y LO HI : Int) (hr : ∀ w : World, Calls Tryz.prog 25 #[.agg #[.int .u64 X, .int .u64 Y]] w fun e w' => e = .returned (.agg #[.int .u64 LO, .int .u64 HI]) ∧ Kp w w') (t1 : (LO == 9218868437227405312) = true) (t2 : (HI == 18442240474082181120) = true) (w : World) : Calls Tryz.prog 11 #[.agg #[.int .u64 X, .int .u64 Y]] w fun e w' => e = .returned (.int .u64 9221120237041090561) ∧ Kp w w' := by
  go_enter Tryz.func11, Tryz.ntmps11
  go_wp2_with (first | (go_at_call 25; refine (hr _).mono ?_; rintro e w1 ⟨rfl, g1⟩; have kw : Kp w w1 := Kp.trans ((Kp.refl w).alloc _) g1))
  refine Fq.wp_region_grow (by kernel_rfl) (by kernel_rfl) (fun ι _ G hG hall => ?_)
  have c0 : ∀ n, (G n).cell? ⟨w1.heap.size, 0, none⟩ = some (.int .u64 LO) := fun n => Fq.gkeep (hG n) (by simp [go_sem])
  have c1 : ∀ n, (G n).cell? ⟨w1.heap.size, 1, none⟩ = some (.int .u64 HI) := fun n => Fq.gkeep (hG n) (by simp [go_sem])
  have kG : ∀ n, Kp w1 (G n) := fun n => Kp.trans ((Kp.refl w1).alloc _) (hG n)
  repeat (go_big_quiet_step (first | (go_at_call 26; exact (Fq.rempty_ _).mono (fun e w' h => ⟨h.1, hall _ (by rw [h.2]; exact (hG _).alloc _ _)⟩))))
  refine wpQuiet_nil ?_
  rintro _ ⟨nq, rfl⟩
  have y0 := c0 nq
  have y1 := c1 nq
  have kW := kG nq
  clear c0 c1 kG hall
  generalize G nq = W at y0 y1 kW ⊢
  clear hG
  go_wp2
  exact bodyPost_ret (v := .int .u64 9221120237041090561) (by simp [results, Tryz.results11, go_sem]) rfl ⟨rfl, Kp.trans kw kW⟩
set_option maxRecDepth 20000 in
set_option maxHeartbeats 1000000 in
theorem rmidE_ (X Y LO HI : Int) (hr : ∀ w : World, Calls Tryz.prog 25 #[.agg #[.int .u64 X, .int .u64 Y]] w fun e w' => e = .returned (.agg #[.int .u64 LO, .int .u64 HI]) ∧ Kp w w') (t1 : (LO == 9218868437227405312) = false) (t2 : (LO == 18442240474082181120) = true) (t3 : (HI == 9218868437227405312) = true) (w : World) : Calls Tryz.prog 11 #[.agg #[.int .u64 X, .int .u64 Y]] w fun e w' => e = .returned (.int .u64 0) ∧ Kp w w' := by
  go_enter Tryz.func11, Tryz.ntmps11
  go_wp2_with (first | (go_at_call 25; refine (hr _).mono ?_; rintro e w1 ⟨rfl, g1⟩; have kw : Kp w w1 := Kp.trans ((Kp.refl w).alloc _) g1))
  refine Fq.wp_region_grow (by kernel_rfl) (by kernel_rfl) (fun ι _ G hG hall => ?_)
  have c0 : ∀ n, (G n).cell? ⟨w1.heap.size, 0, none⟩ = some (.int .u64 LO) := fun n => Fq.gkeep (hG n) (by simp [go_sem])
  have c1 : ∀ n, (G n).cell? ⟨w1.heap.size, 1, none⟩ = some (.int .u64 HI) := fun n => Fq.gkeep (hG n) (by simp [go_sem])
  have kG : ∀ n, Kp w1 (G n) := fun n => Kp.trans ((Kp.refl w1).alloc _) (hG n)
  repeat (go_big_quiet_step (first | (go_at_call 26; exact (Fq.rempty_ _).mono (fun e w' h => ⟨h.1, hall _ (by rw [h.2]; exact (hG _).alloc _ _)⟩))))
  refine wpQuiet_nil ?_
  rintro _ ⟨nq, rfl⟩
  have y0 := c0 nq
  have y1 := c1 nq
  have kW := kG nq
  clear c0 c1 kG hall
  generalize G nq = W at y0 y1 kW ⊢
  clear hG
  go_wp2
  refine Fq.wp_region_grow (by kernel_rfl) (by kernel_rfl) (fun ι _ G hG hall => ?_)
  have c0 : ∀ n, (G n).cell? ⟨w1.heap.size, 0, none⟩ = some (.int .u64 LO) := fun n => Fq.gkeep (hG n) y0
  have c1 : ∀ n, (G n).cell? ⟨w1.heap.size, 1, none⟩ = some (.int .u64 HI) := fun n => Fq.gkeep (hG n) y1
  have kG : ∀ n, Kp w (G n) := fun n => Kp.trans (Kp.trans kw kW) (hG n)
  repeat (go_big_quiet_step (first | (go_at_call 32; exact (Fq.rentire_ _).mono (fun e w' h => ⟨h.1, hall _ (by rw [h.2]; exact (hG _).alloc _ _)⟩))))
  refine wpQuiet_nil ?_
  rintro _ ⟨nq, rfl⟩
  have z0 := c0 nq
  have z1 := c1 nq
  have kZ := kG nq
  clear c0 c1 kG hall y0 y1 kW
  generalize G nq = W2 at z0 z1 kZ ⊢
  clear hG
  go_wp2
  exact bodyPost_ret (v := .int .u64 0) (by simp [results, Tryz.results11, go_sem]) rfl ⟨rfl, kZ⟩
set_option maxRecDepth 20000 in
set_option maxHeartbeats 1000000 in
theorem rmidL_ (X Y LO HI : Int) (hr : ∀ w : World, Calls Tryz.prog 25 #[.agg #[.int .u64 X, .int .u64 Y]] w fun e w' => e = .returned (.agg #[.int .u64 LO, .int .u64 HI]) ∧ Kp w w') (t1 : (LO == 9218868437227405312) = false) (t2 : (LO == 18442240474082181120) = true) (t3 : (HI == 9218868437227405312) = false) (w : World) : Calls Tryz.prog 11 #[.agg #[.int .u64 X, .int .u64 Y]] w fun e w' => e = .returned (.int .u64 18442240474082181119) ∧ Kp w w' := by
  go_enter Tryz.func11, Tryz.ntmps11
  go_wp2_with (first | (go_at_call 25; refine (hr _).mono ?_; rintro e w1 ⟨rfl, g1⟩; have kw : Kp w w1 := Kp.trans ((Kp.refl w).alloc _) g1))
  refine Fq.wp_region_grow (by kernel_rfl) (by kernel_rfl) (fun ι _ G hG hall => ?_)
  have c0 : ∀ n, (G n).cell? ⟨w1.heap.size, 0, none⟩ = some (.int .u64 LO) := fun n => Fq.gkeep (hG n) (by simp [go_sem])
  have c1 : ∀ n, (G n).cell? ⟨w1.heap.size, 1, none⟩ = some (.int .u64 HI) := fun n => Fq.gkeep (hG n) (by simp [go_sem])
  have kG : ∀ n, Kp w1 (G n) := fun n => Kp.trans ((Kp.refl w1).alloc _) (hG n)
  repeat (go_big_quiet_step (first | (go_at_call 26; exact (Fq.rempty_ _).mono (fun e w' h => ⟨h.1, hall _ (by rw [h.2]; exact (hG _).alloc _ _)⟩))))
  refine wpQuiet_nil ?_
  rintro _ ⟨nq, rfl⟩
  have y0 := c0 nq
  have y1 := c1 nq
  have kW := kG nq
  clear c0 c1 kG hall
  generalize G nq = W at y0 y1 kW ⊢
  clear hG
  go_wp2
  refine Fq.wp_region_grow (by kernel_rfl) (by kernel_rfl) (fun ι _ G hG hall => ?_)
  have c0 : ∀ n, (G n).cell? ⟨w1.heap.size, 0, none⟩ = some (.int .u64 LO) := fun n => Fq.gkeep (hG n) y0
  have c1 : ∀ n, (G n).cell? ⟨w1.heap.size, 1, none⟩ = some (.int .u64 HI) := fun n => Fq.gkeep (hG n) y1
  have kG : ∀ n, Kp w (G n) := fun n => Kp.trans (Kp.trans kw kW) (hG n)
  repeat (go_big_quiet_step (first | (go_at_call 32; exact (Fq.rentire_ _).mono (fun e w' h => ⟨h.1, hall _ (by rw [h.2]; exact (hG _).alloc _ _)⟩))))
  refine wpQuiet_nil ?_
  rintro _ ⟨nq, rfl⟩
  have z0 := c0 nq
  have z1 := c1 nq
  have kZ := kG nq
  clear c0 c1 kG hall y0 y1 kW
  generalize G nq = W2 at z0 z1 kZ ⊢
  clear hG
  go_wp2
  exact bodyPost_ret (v := .int .u64 18442240474082181119) (by simp [results, Tryz.results11, go_sem]) rfl ⟨rfl, kZ⟩
set_option maxRecDepth 20000 in
set_option maxHeartbeats 1000000 in
theorem rmidH_ (X Y LO HI : Int) (hr : ∀ w : World, Calls Tryz.prog 25 #[.agg #[.int .u64 X, .int .u64 Y]] w fun e w' => e = .returned (.agg #[.int .u64 LO, .int .u64 HI]) ∧ Kp w w') (t1 : (LO == 9218868437227405312) = false) (t2 : (LO == 18442240474082181120) = false) (t3 : (HI == 9218868437227405312) = true) (w : World) : Calls Tryz.prog 11 #[.agg #[.int .u64 X, .int .u64 Y]] w fun e w' => e = .returned (.int .u64 9218868437227405311) ∧ Kp w w' := by
  go_enter Tryz.func11, Tryz.ntmps11
  go_wp2_with (first | (go_at_call 25; refine (hr _).mono ?_; rintro e w1 ⟨rfl, g1⟩; have kw : Kp w w1 := Kp.trans ((Kp.refl w).alloc _) g1))
  refine Fq.wp_region_grow (by kernel_rfl) (by kernel_rfl) (fun ι _ G hG hall => ?_)
  have c0 : ∀ n, (G n).cell? ⟨w1.heap.size, 0, none⟩ = some (.int .u64 LO) := fun n => Fq.gkeep (hG n) (by simp [go_sem])
  have c1 : ∀ n, (G n).cell? ⟨w1.heap.size, 1, none⟩ = some (.int .u64 HI) := fun n => Fq.gkeep (hG n) (by simp [go_sem])
  have kG : ∀ n, Kp w1 (G n) := fun n => Kp.trans ((Kp.refl w1).alloc _) (hG n)
  repeat (go_big_quiet_step (first | (go_at_call 26; exact (Fq.rempty_ _).mono (fun e w' h => ⟨h.1, hall _ (by rw [h.2]; exact (hG _).alloc _ _)⟩))))
  refine wpQuiet_nil ?_
  rintro _ ⟨nq, rfl⟩
  have y0 := c0 nq
  have y1 := c1 nq
  have kW := kG nq
  clear c0 c1 kG hall
  generalize G nq = W at y0 y1 kW ⊢
  clear hG
  go_wp2
  refine Fq.wp_region_grow (by kernel_rfl) (by kernel_rfl) (fun ι _ G hG hall => ?_)
  have c0 : ∀ n, (G n).cell? ⟨w1.heap.size, 0, none⟩ = some (.int .u64 LO) := fun n => Fq.gkeep (hG n) y0
  have c1 : ∀ n, (G n).cell? ⟨w1.heap.size, 1, none⟩ = some (.int .u64 HI) := fun n => Fq.gkeep (hG n) y1
  have kG : ∀ n, Kp w (G n) := fun n => Kp.trans (Kp.trans kw kW) (hG n)
  repeat (go_big_quiet_step (first | (go_at_call 32; exact (Fq.rentire_ _).mono (fun e w' h => ⟨h.1, hall _ (by rw [h.2]; exact (hG _).alloc _ _)⟩))))
  refine wpQuiet_nil ?_
  rintro _ ⟨nq, rfl⟩
  have z0 := c0 nq
  have z1 := c1 nq
  have kZ := kG nq
  clear c0 c1 kG hall y0 y1 kW
  generalize G nq = W2 at z0 z1 kZ ⊢
  clear hG
  go_wp2
  exact bodyPost_ret (v := .int .u64 9218868437227405311) (by simp [results, Tryz.results11, go_sem]) rfl ⟨rfl, kZ⟩
set_option linter.unusedSimpArgs false
set_option maxRecDepth 20000 in
set_option maxHeartbeats 2000000 in
theorem rmidF_ (X Y LO HI : Int) (N1 N2 : Bool) (M1 M2 : Nat) (hr : ∀ w : World, Calls Tryz.prog 25 #[.agg #[.int .u64 X, .int .u64 Y]] w fun e w' => e = .returned (.agg #[.int .u64 LO, .int .u64 HI]) ∧ Kp w w') (t1 : (LO == 9218868437227405312) = false) (t2 : (LO == 18442240474082181120) = false) (t3 : (HI == 9218868437227405312) = false) (hf1 : ∀ w : World, Calls Tryz.prog 28 #[.int .u64 LO] w fun e w' => ∃ (s : Bool) (p : Option Addr) (l c : Nat) (q : Option Addr) (k d : Nat), e = .returned (.agg #[.bool s, .slice p l c, .slice q k d]) ∧ RP w.heap.size w' s p l c q k d N1 M1 ∧ Kp w w') (hf2 : ∀ w : World, Calls Tryz.prog 28 #[.int .u64 HI] w fun e w' => ∃ (s : Bool) (p : Option Addr) (l c : Nat) (q : Option Addr) (k d : Nat), e = .returned (.agg #[.bool s, .slice p l c, .slice q k d]) ∧ RP w.heap.size w' s p l c q k d N2 M2 ∧ Kp w w') (w : World) : Calls Tryz.prog 11 #[.agg #[.int .u64 X, .int .u64 Y]] w fun e w' => e = .returned (.int .u64 ((hfW (Iv N1 M1 + Iv N2 M2) : Nat) : Int)) ∧ Kp w w' := by
  go_enter Tryz.func11, Tryz.ntmps11
  go_wp2_with (first | (go_at_call 25; refine (hr _).mono ?_; rintro e w1 ⟨rfl, g1⟩; have kw : Kp w w1 := Kp.trans ((Kp.refl w).alloc _) g1))
  refine Fq.wp_region_grow (by kernel_rfl) (by kernel_rfl) (fun ι _ G hG hall => ?_)
  have c0 : ∀ n, (G n).cell? ⟨w1.heap.size, 0, none⟩ = some (.int .u64 LO) := fun n => Fq.gkeep (hG n) (by simp [go_sem])
  have c1 : ∀ n, (G n).cell? ⟨w1.heap.size, 1, none⟩ = some (.int .u64 HI) := fun n => Fq.gkeep (hG n) (by simp [go_sem])
  have kG : ∀ n, Kp w1 (G n) := fun n => Kp.trans ((Kp.refl w1).alloc _) (hG n)
  repeat (go_big_quiet_step (first | (go_at_call 26; exact (Fq.rempty_ _).mono (fun e w' h => ⟨h.1, hall _ (by rw [h.2]; exact (hG _).alloc _ _)⟩))))
  refine wpQuiet_nil ?_
  rintro _ ⟨nq, rfl⟩
  have y0 := c0 nq
  have y1 := c1 nq
  have kW := kG nq
  clear c0 c1 kG hall
  generalize G nq = W at y0 y1 kW ⊢
  clear hG
  go_wp2
  refine Fq.wp_region_grow (by kernel_rfl) (by kernel_rfl) (fun ι _ G hG hall => ?_)
  have c0 : ∀ n, (G n).cell? ⟨w1.heap.size, 0, none⟩ = some (.int .u64 LO) := fun n => Fq.gkeep (hG n) y0
  have c1 : ∀ n, (G n).cell? ⟨w1.heap.size, 1, none⟩ = some (.int .u64 HI) := fun n => Fq.gkeep (hG n) y1
  have kG : ∀ n, Kp w (G n) := fun n => Kp.trans (Kp.trans kw kW) (hG n)
  repeat (go_big_quiet_step (first | (go_at_call 32; exact (Fq.rentire_ _).mono (fun e w' h => ⟨h.1, hall _ (by rw [h.2]; exact (hG _).alloc _ _)⟩))))
  refine wpQuiet_nil ?_
  rintro _ ⟨nq, rfl⟩
  have z0 := c0 nq
  have z1 := c1 nq
  have kZ := kG nq
  clear c0 c1 kG hall y0 y1 kW
  generalize G nq = W2 at z0 z1 kZ ⊢
  clear hG
  go_wp2
  have zd0 : W2.drew.cell? ⟨w1.heap.size, 0, none⟩ = some (.int .u64 LO) := z0
  have zd1 : W2.drew.cell? ⟨w1.heap.size, 1, none⟩ = some (.int .u64 HI) := z1
  go_region_held3 (fun w' => w'.cell? ⟨w1.heap.size, 0, none⟩ = some (.int .u64 LO) ∧ w'.cell? ⟨w1.heap.size, 1, none⟩ = some (.int .u64 HI)) (first | (with_reducible exact ⟨z0, z1⟩) | (with_reducible exact ⟨zd0, zd1⟩) | (with_reducible exact ⟨c0W20, c0W21⟩) | (with_reducible exact ⟨c1W20, c1W21⟩) | (with_reducible exact ⟨c2W20, c2W21⟩) | (refine ⟨kkeep (W := W2) ?_ z0, kkeep (W := W2) ?_ z1⟩ <;> ((repeat (first | with_reducible exact Kp.refl _ | with_reducible apply Kp.drew | with_reducible apply Kp.alloc)); done)) | (refine ⟨kkeep (W := w3) ?_ c0W20, kkeep (W := w3) ?_ c0W21⟩ <;> ((repeat (first | with_reducible exact Kp.refl _ | with_reducible apply Kp.drew | with_reducible apply Kp.alloc)); done)) | (refine ⟨kkeep (W := w4) ?_ c1W20, kkeep (W := w4) ?_ c1W21⟩ <;> ((repeat (first | with_reducible exact Kp.refl _ | with_reducible apply Kp.drew | with_reducible apply Kp.alloc)); done)) | (refine ⟨kkeep (W := w5) ?_ c2W20, kkeep (W := w5) ?_ c2W21⟩ <;> ((repeat (first | with_reducible exact Kp.refl _ | with_reducible apply Kp.drew | with_reducible apply Kp.alloc)); done)) | (refine ⟨?_, ?_⟩ <;> (refine (World.cell?_setCell_far _ _ _ _ ?_).trans ((World.cell?_setCell_far _ _ _ _ ?_).trans ((World.cell?_setCell_far _ _ _ _ ?_).trans ?_)) <;> first | assumption | (have h90 := cell_lt z0; have h91 := cell_lt z1; have h2 := Below.size KW20; have h3 := Below.size KW21; first | omega | (simp <;> omega))))) (first | (go_at_call_of 28 (Value.int .u64 LO); refine (hf1 _).mono ?_; rintro e w3 ⟨s, p, l, c, q, k, d, rfl, hp, g3⟩; have KW20 : Kp W2 w3 := Kp.trans (by (repeat (first | exact Kp.refl _ | apply Kp.drew | apply Kp.alloc)); done) g3; have c0W20 := kkeep KW20 z0; have c0W21 := kkeep KW20 z1) | (go_at_call_of 28 (Value.int .u64 HI); refine (hf2 _).mono ?_; rintro e w4 ⟨s2, p2, l2, c2, q2, k2, d2, rfl, hp2, g4⟩; have KW21 : Kp W2 w4 := Kp.trans (Kp.trans KW20 (by (repeat (first | exact Kp.refl _ | apply Kp.drew | apply Kp.alloc)); done)) g4; have c1W20 := kkeep KW21 z0; have c1W21 := kkeep KW21 z1) | (go_at_call 33; refine (vadd_ N1 N2 M1 M2 s p l c q k d s2 p2 l2 c2 q2 k2 d2 _ _ _ ((hp.kp (Kp.trans (by (repeat (first | exact Kp.refl _ | apply Kp.drew | apply Kp.alloc)); done) g4)).kp (by (repeat (first | exact Kp.refl _ | apply Kp.drew | apply Kp.alloc)); done)) (hp2.kp (by (repeat (first | exact Kp.refl _ | apply Kp.drew | apply Kp.alloc)); done))).mono ?_; rintro e w5 ⟨s3, p3, l3, c3, q3, k3, d3, rfl, hq, g5⟩; have KW22 : Kp W2 w5 := Kp.trans (Kp.trans KW21 (by (repeat (first | exact Kp.refl _ | apply Kp.drew | apply Kp.alloc)); done)) g5; have c2W20 := kkeep KW22 z0; have c2W21 := kkeep KW22 z1; first | (have m00 : (W2.drew.alloc (.cells #[.bool false, .slice none 0 0, .slice none 0 0] 49)).cell? ⟨W2.heap.size, 0, none⟩ = some (.bool false) := (by simp [go_sem]); have f00 : (W2.drew.alloc (.cells #[.bool false, .slice none 0 0, .slice none 0 0] 49)).frozen? ⟨W2.heap.size, 0, none⟩ = false := (by simp [go_sem]); have m01 : (W2.drew.alloc (.cells #[.bool false, .slice none 0 0, .slice none 0 0] 49)).cell? ⟨W2.heap.size, 1, none⟩ = some (.slice none 0 0) := (by simp [go_sem]); have f01 : (W2.drew.alloc (.cells #[.bool false, .slice none 0 0, .slice none 0 0] 49)).frozen? ⟨W2.heap.size, 1, none⟩ = false := (by simp [go_sem]); have m02 : (W2.drew.alloc (.cells #[.bool false, .slice none 0 0, .slice none 0 0] 49)).cell? ⟨W2.heap.size, 2, none⟩ = some (.slice none 0 0) := (by simp [go_sem]); have f02 : (W2.drew.alloc (.cells #[.bool false, .slice none 0 0, .slice none 0 0] 49)).frozen? ⟨W2.heap.size, 2, none⟩ = false := (by simp [go_sem]); have m10 := kkeep g3 m00; have f10 : w3.frozen? ⟨W2.heap.size, 0, none⟩ = false := (kfro g3 (cell_lt m00)).trans f00; have m11 := kkeep g3 m01; have f11 : w3.frozen? ⟨W2.heap.size, 1, none⟩ = false := (kfro g3 (cell_lt m01)).trans f01; have m12 := kkeep g3 m02; have f12 : w3.frozen? ⟨W2.heap.size, 2, none⟩ = false := (kfro g3 (cell_lt m02)).trans f02; have m20 := kkeep g4 m10; have f20 : w4.frozen? ⟨W2.heap.size, 0, none⟩ = false := (kfro g4 (cell_lt m10)).trans f10; have m21 := kkeep g4 m11; have f21 : w4.frozen? ⟨W2.heap.size, 1, none⟩ = false := (kfro g4 (cell_lt m11)).trans f11; have m22 := kkeep g4 m12; have f22 : w4.frozen? ⟨W2.heap.size, 2, none⟩ = false := (kfro g4 (cell_lt m12)).trans f12; have m30 := kkeep g5 m20; have f30 : w5.frozen? ⟨W2.heap.size, 0, none⟩ = false := (kfro g5 (cell_lt m20)).trans f20; have m31 := kkeep g5 m21; have f31 : w5.frozen? ⟨W2.heap.size, 1, none⟩ = false := (kfro g5 (cell_lt m21)).trans f21; have m32 := kkeep g5 m22; have f32 : w5.frozen? ⟨W2.heap.size, 2, none⟩ = false := (kfro g5 (cell_lt m22)).trans f22; have HS := (((hq.set (x := ⟨W2.heap.size, 0, none⟩) (cell_lt m20) (.bool s3)).set (x := ⟨W2.heap.size, 1, none⟩) (cell_lt m20) (.slice p3 l3 c3)).set (x := ⟨W2.heap.size, 2, none⟩) (cell_lt m20) (.slice q3 k3 d3))) | (have m00 : (w3.alloc (.cells #[.bool false, .slice none 0 0, .slice none 0 0] 49)).cell? ⟨w3.heap.size, 0, none⟩ = some (.bool false) := (by simp [go_sem]); have f00 : (w3.alloc (.cells #[.bool false, .slice none 0 0, .slice none 0 0] 49)).frozen? ⟨w3.heap.size, 0, none⟩ = false := (by simp [go_sem]); have m01 : (w3.alloc (.cells #[.bool false, .slice none 0 0, .slice none 0 0] 49)).cell? ⟨w3.heap.size, 1, none⟩ = some (.slice none 0 0) := (by simp [go_sem]); have f01 : (w3.alloc (.cells #[.bool false, .slice none 0 0, .slice none 0 0] 49)).frozen? ⟨w3.heap.size, 1, none⟩ = false := (by simp [go_sem]); have m02 : (w3.alloc (.cells #[.bool false, .slice none 0 0, .slice none 0 0] 49)).cell? ⟨w3.heap.size, 2, none⟩ = some (.slice none 0 0) := (by simp [go_sem]); have f02 : (w3.alloc (.cells #[.bool false, .slice none 0 0, .slice none 0 0] 49)).frozen? ⟨w3.heap.size, 2, none⟩ = false := (by simp [go_sem]); have m10 := kkeep g4 m00; have f10 : w4.frozen? ⟨w3.heap.size, 0, none⟩ = false := (kfro g4 (cell_lt m00)).trans f00; have m11 := kkeep g4 m01; have f11 : w4.frozen? ⟨w3.heap.size, 1, none⟩ = false := (kfro g4 (cell_lt m01)).trans f01; have m12 := kkeep g4 m02; have f12 : w4.frozen? ⟨w3.heap.size, 2, none⟩ = false := (kfro g4 (cell_lt m02)).trans f02; have m20 := kkeep g5 m10; have f20 : w5.frozen? ⟨w3.heap.size, 0, none⟩ = false := (kfro g5 (cell_lt m10)).trans f10; have m21 := kkeep g5 m11; have f21 : w5.frozen? ⟨w3.heap.size, 1, none⟩ = false := (kfro g5 (cell_lt m11)).trans f11; have m22 := kkeep g5 m12; have f22 : w5.frozen? ⟨w3.heap.size, 2, none⟩ = false := (kfro g5 (cell_lt m12)).trans f12; have HS := (((hq.set (x := ⟨w3.heap.size, 0, none⟩) (cell_lt m10) (.bool s3)).set (x := ⟨w3.heap.size, 1, none⟩) (cell_lt m10) (.slice p3 l3 c3)).set (x := ⟨w3.heap.size, 2, none⟩) (cell_lt m10) (.slice q3 k3 d3))) | (have m00 : (w4.alloc (.cells #[.bool false, .slice none 0 0, .slice none 0 0] 49)).cell? ⟨w4.heap.size, 0, none⟩ = some (.bool false) := (by simp [go_sem]); have f00 : (w4.alloc (.cells #[.bool false, .slice none 0 0, .slice none 0 0] 49)).frozen? ⟨w4.heap.size, 0, none⟩ = false := (by simp [go_sem]); have m01 : (w4.alloc (.cells #[.bool false, .slice none 0 0, .slice none 0 0] 49)).cell? ⟨w4.heap.size, 1, none⟩ = some (.slice none 0 0) := (by simp [go_sem]); have f01 : (w4.alloc (.cells #[.bool false, .slice none 0 0, .slice none 0 0] 49)).frozen? ⟨w4.heap.size, 1, none⟩ = false := (by simp [go_sem]); have m02 : (w4.alloc (.cells #[.bool false, .slice none 0 0, .slice none 0 0] 49)).cell? ⟨w4.heap.size, 2, none⟩ = some (.slice none 0 0) := (by simp [go_sem]); have f02 : (w4.alloc (.cells #[.bool false, .slice none 0 0, .slice none 0 0] 49)).frozen? ⟨w4.heap.size, 2, none⟩ = false := (by simp [go_sem]); have m10 := kkeep g5 m00; have f10 : w5.frozen? ⟨w4.heap.size, 0, none⟩ = false := (kfro g5 (cell_lt m00)).trans f00; have m11 := kkeep g5 m01; have f11 : w5.frozen? ⟨w4.heap.size, 1, none⟩ = false := (kfro g5 (cell_lt m01)).trans f01; have m12 := kkeep g5 m02; have f12 : w5.frozen? ⟨w4.heap.size, 2, none⟩ = false := (kfro g5 (cell_lt m02)).trans f02; have HS := (((hq.set (x := ⟨w4.heap.size, 0, none⟩) (cell_lt m00) (.bool s3)).set (x := ⟨w4.heap.size, 1, none⟩) (cell_lt m00) (.slice p3 l3 c3)).set (x := ⟨w4.heap.size, 2, none⟩) (cell_lt m00) (.slice q3 k3 d3))) | skip))
  all_goals go_wp2
  all_goals (first
    | skip
      have x0 : ((((w5).setCell ⟨W2.heap.size, 0, none⟩ (.bool s3)).setCell ⟨W2.heap.size, 1, none⟩ (.slice p3 l3 c3)).setCell ⟨W2.heap.size, 2, none⟩ (.slice q3 k3 d3)).cell? ⟨W2.heap.size, 0, none⟩ = some (.bool s3) := by simp [go_sem, m30, m31, m32, f30, f31, f32]
      have x1 : ((((w5).setCell ⟨W2.heap.size, 0, none⟩ (.bool s3)).setCell ⟨W2.heap.size, 1, none⟩ (.slice p3 l3 c3)).setCell ⟨W2.heap.size, 2, none⟩ (.slice q3 k3 d3)).cell? ⟨W2.heap.size, 1, none⟩ = some (.slice p3 l3 c3) := by simp [go_sem, m30, m31, m32, f30, f31, f32]
      have x2 : ((((w5).setCell ⟨W2.heap.size, 0, none⟩ (.bool s3)).setCell ⟨W2.heap.size, 1, none⟩ (.slice p3 l3 c3)).setCell ⟨W2.heap.size, 2, none⟩ (.slice q3 k3 d3)).cell? ⟨W2.heap.size, 2, none⟩ = some (.slice q3 k3 d3) := by simp [go_sem, m30, m31, m32, f30, f31, f32]
      have hv5 := HS
      have kV : Kp w ((((w5).setCell ⟨W2.heap.size, 0, none⟩ (.bool s3)).setCell ⟨W2.heap.size, 1, none⟩ (.slice p3 l3 c3)).setCell ⟨W2.heap.size, 2, none⟩ (.slice q3 k3 d3)) := ((((Kp.trans kZ KW22)).setCell (by exact Below.size kZ) _).setCell (by exact Below.size kZ) _).setCell (by exact Below.size kZ) _
      have KZ9 : Kp W2 ((((w5).setCell ⟨W2.heap.size, 0, none⟩ (.bool s3)).setCell ⟨W2.heap.size, 1, none⟩ (.slice p3 l3 c3)).setCell ⟨W2.heap.size, 2, none⟩ (.slice q3 k3 d3)) := (((KW22).setCell (by first | omega | (simp <;> omega)) _).setCell (by first | omega | (simp <;> omega)) _).setCell (by first | omega | (simp <;> omega)) _
      generalize ((((w5).setCell ⟨W2.heap.size, 0, none⟩ (.bool s3)).setCell ⟨W2.heap.size, 1, none⟩ (.slice p3 l3 c3)).setCell ⟨W2.heap.size, 2, none⟩ (.slice q3 k3 d3)) = W5 at x0 x1 x2 hv5 kV KZ9 ⊢
      generalize W2.heap.size = B5 at x0 x1 x2 ⊢
    | skip
      have x0 : ((((w5).setCell ⟨w3.heap.size, 0, none⟩ (.bool s3)).setCell ⟨w3.heap.size, 1, none⟩ (.slice p3 l3 c3)).setCell ⟨w3.heap.size, 2, none⟩ (.slice q3 k3 d3)).cell? ⟨w3.heap.size, 0, none⟩ = some (.bool s3) := by simp [go_sem, m20, m21, m22, f20, f21, f22]
      have x1 : ((((w5).setCell ⟨w3.heap.size, 0, none⟩ (.bool s3)).setCell ⟨w3.heap.size, 1, none⟩ (.slice p3 l3 c3)).setCell ⟨w3.heap.size, 2, none⟩ (.slice q3 k3 d3)).cell? ⟨w3.heap.size, 1, none⟩ = some (.slice p3 l3 c3) := by simp [go_sem, m20, m21, m22, f20, f21, f22]
      have x2 : ((((w5).setCell ⟨w3.heap.size, 0, none⟩ (.bool s3)).setCell ⟨w3.heap.size, 1, none⟩ (.slice p3 l3 c3)).setCell ⟨w3.heap.size, 2, none⟩ (.slice q3 k3 d3)).cell? ⟨w3.heap.size, 2, none⟩ = some (.slice q3 k3 d3) := by simp [go_sem, m20, m21, m22, f20, f21, f22]
      have hv5 := HS
      have kV : Kp w ((((w5).setCell ⟨w3.heap.size, 0, none⟩ (.bool s3)).setCell ⟨w3.heap.size, 1, none⟩ (.slice p3 l3 c3)).setCell ⟨w3.heap.size, 2, none⟩ (.slice q3 k3 d3)) := ((((Kp.trans kZ KW22)).setCell (by have h1 := Below.size kZ; have h2 := Below.size KW20; first | omega | (simp <;> omega)) _).setCell (by have h1 := Below.size kZ; have h2 := Below.size KW20; first | omega | (simp <;> omega)) _).setCell (by have h1 := Below.size kZ; have h2 := Below.size KW20; first | omega | (simp <;> omega)) _
      have KZ9 : Kp W2 ((((w5).setCell ⟨w3.heap.size, 0, none⟩ (.bool s3)).setCell ⟨w3.heap.size, 1, none⟩ (.slice p3 l3 c3)).setCell ⟨w3.heap.size, 2, none⟩ (.slice q3 k3 d3)) := (((KW22).setCell (by have h2 := Below.size KW20; first | omega | (simp <;> omega)) _).setCell (by have h2 := Below.size KW20; first | omega | (simp <;> omega)) _).setCell (by have h2 := Below.size KW20; first | omega | (simp <;> omega)) _
      generalize ((((w5).setCell ⟨w3.heap.size, 0, none⟩ (.bool s3)).setCell ⟨w3.heap.size, 1, none⟩ (.slice p3 l3 c3)).setCell ⟨w3.heap.size, 2, none⟩ (.slice q3 k3 d3)) = W5 at x0 x1 x2 hv5 kV KZ9 ⊢
      generalize w3.heap.size = B5 at x0 x1 x2 ⊢
    | skip
      have x0 : ((((w5).setCell ⟨w4.heap.size, 0, none⟩ (.bool s3)).setCell ⟨w4.heap.size, 1, none⟩ (.slice p3 l3 c3)).setCell ⟨w4.heap.size, 2, none⟩ (.slice q3 k3 d3)).cell? ⟨w4.heap.size, 0, none⟩ = some (.bool s3) := by simp [go_sem, m10, m11, m12, f10, f11, f12]
      have x1 : ((((w5).setCell ⟨w4.heap.size, 0, none⟩ (.bool s3)).setCell ⟨w4.heap.size, 1, none⟩ (.slice p3 l3 c3)).setCell ⟨w4.heap.size, 2, none⟩ (.slice q3 k3 d3)).cell? ⟨w4.heap.size, 1, none⟩ = some (.slice p3 l3 c3) := by simp [go_sem, m10, m11, m12, f10, f11, f12]
      have x2 : ((((w5).setCell ⟨w4.heap.size, 0, none⟩ (.bool s3)).setCell ⟨w4.heap.size, 1, none⟩ (.slice p3 l3 c3)).setCell ⟨w4.heap.size, 2, none⟩ (.slice q3 k3 d3)).cell? ⟨w4.heap.size, 2, none⟩ = some (.slice q3 k3 d3) := by simp [go_sem, m10, m11, m12, f10, f11, f12]
      have hv5 := HS
      have kV : Kp w ((((w5).setCell ⟨w4.heap.size, 0, none⟩ (.bool s3)).setCell ⟨w4.heap.size, 1, none⟩ (.slice p3 l3 c3)).setCell ⟨w4.heap.size, 2, none⟩ (.slice q3 k3 d3)) := ((((Kp.trans kZ KW22)).setCell (by have h1 := Below.size kZ; have h2 := Below.size KW21; first | omega | (simp <;> omega)) _).setCell (by have h1 := Below.size kZ; have h2 := Below.size KW21; first | omega | (simp <;> omega)) _).setCell (by have h1 := Below.size kZ; have h2 := Below.size KW21; first | omega | (simp <;> omega)) _
      have KZ9 : Kp W2 ((((w5).setCell ⟨w4.heap.size, 0, none⟩ (.bool s3)).setCell ⟨w4.heap.size, 1, none⟩ (.slice p3 l3 c3)).setCell ⟨w4.heap.size, 2, none⟩ (.slice q3 k3 d3)) := (((KW22).setCell (by have h2 := Below.size KW21; first | omega | (simp <;> omega)) _).setCell (by have h2 := Below.size KW21; first | omega | (simp <;> omega)) _).setCell (by have h2 := Below.size KW21; first | omega | (simp <;> omega)) _
      generalize ((((w5).setCell ⟨w4.heap.size, 0, none⟩ (.bool s3)).setCell ⟨w4.heap.size, 1, none⟩ (.slice p3 l3 c3)).setCell ⟨w4.heap.size, 2, none⟩ (.slice q3 k3 d3)) = W5 at x0 x1 x2 hv5 kV KZ9 ⊢
      generalize w4.heap.size = B5 at x0 x1 x2 ⊢
    | skip
      have x0 : (w5.alloc (.cells #[.bool s3, .slice p3 l3 c3, .slice q3 k3 d3] 49)).cell? ⟨w5.heap.size, 0, none⟩ = some (.bool s3) := by simp [go_sem]
      have x1 : (w5.alloc (.cells #[.bool s3, .slice p3 l3 c3, .slice q3 k3 d3] 49)).cell? ⟨w5.heap.size, 1, none⟩ = some (.slice p3 l3 c3) := by simp [go_sem]
      have x2 : (w5.alloc (.cells #[.bool s3, .slice p3 l3 c3, .slice q3 k3 d3] 49)).cell? ⟨w5.heap.size, 2, none⟩ = some (.slice q3 k3 d3) := by simp [go_sem]
      have hv5 := hq.kp ((Kp.refl w5).alloc (.cells #[.bool s3, .slice p3 l3 c3, .slice q3 k3 d3] 49))
      have kV : Kp w (w5.alloc (.cells #[.bool s3, .slice p3 l3 c3, .slice q3 k3 d3] 49)) := Kp.trans (Kp.trans kZ KW22) ((Kp.refl w5).alloc _)
      have KZ9 : Kp W2 (w5.alloc (.cells #[.bool s3, .slice p3 l3 c3, .slice q3 k3 d3] 49)) := Kp.trans KW22 ((Kp.refl w5).alloc _)
      generalize ((w5.alloc (.cells #[.bool s3, .slice p3 l3 c3, .slice q3 k3 d3] 49))) = W5 at x0 x1 x2 hv5 kV KZ9 ⊢
      generalize w5.heap.size = B5 at x0 x1 x2 ⊢)
  all_goals (
  have v0 : W5.drew.cell? ⟨B5, 0, none⟩ = some (.bool s3) := x0
  have v1 : W5.drew.cell? ⟨B5, 1, none⟩ = some (.slice p3 l3 c3) := x1
  have v2 : W5.drew.cell? ⟨B5, 2, none⟩ = some (.slice q3 k3 d3) := x2
  go_region_held3 (fun w' => w'.cell? ⟨B5, 0, none⟩ = some (.bool s3) ∧ w'.cell? ⟨B5, 1, none⟩ = some (.slice p3 l3 c3) ∧ w'.cell? ⟨B5, 2, none⟩ = some (.slice q3 k3 d3)) (first | (with_reducible exact ⟨x0, x1, x2⟩) | (with_reducible exact ⟨v0, v1, v2⟩) | (with_reducible exact ⟨i0, i1, i2⟩) | (with_reducible exact ⟨j0, j1, j2⟩) | (with_reducible exact ⟨h0, h1, h2⟩)) (first | (go_at_call 35; refine (int2_ _).mono ?_; rintro e w6 ⟨s5, p5, l5, c5, q5, k5', d5, rfl, hi, g6⟩; have k6 : Kp W5 w6 := Kp.trans (Kp.drew (Kp.refl _)) g6; have i0 := kkeep k6 x0; have i1 := kkeep k6 x1; have i2 := kkeep k6 x2) | (go_at_call 34; refine (vhalf_ _ s3 p3 l3 c3 q3 k3 d3 s5 p5 l5 c5 q5 k5' d5 _ _ _ (hv5.kp k6) hi).mono ?_; rintro e w7 ⟨s6, p6, l6, c6, q6, k6', d6, rfl, hh, g7⟩; have k7 : Kp W5 w7 := Kp.trans k6 g7; have j0 := kkeep k7 x0; have j1 := kkeep k7 x1; have j2 := kkeep k7 x2) | (go_at_call 30; refine (hbits_ s6 p6 l6 c6 q6 k6' d6 _ _ hh).mono ?_; rintro e w8 ⟨rfl, g8⟩; have k8 : Kp W5 w8 := Kp.trans k7 g8; have h0 := kkeep k8 x0; have h1 := kkeep k8 x1; have h2 := kkeep k8 x2))
  go_wp2
  exact bodyPost_ret (v := .int .u64 ((hfW (Iv N1 M1 + Iv N2 M2) : Nat) : Int)) (by simp [results, Tryz.results11, go_sem]) rfl ⟨rfl, Kp.trans kV k8⟩)

theorem hfW_pat (V : Int) : ∃ s r, r ≤ 9218868437227405312 ∧ hfW V = Fq.wD s r ∧ (r = 0 → s = false) := by
  unfold hfW
  by_cases c : V = 0
  · exact ⟨false, 0, by decide, by rw [if_pos c]; rfl, fun _ => rfl⟩
  · rw [if_neg c]
    have h := fin_leH 0 (rU 0 53 V.natAbs 2)
    generalize finU 53 2098 9218868437227405311 9218868437227405312 0 (rU 0 53 V.natAbs 2) = x at h ⊢
    by_cases z : x = 0
    · exact ⟨false, 0, by decide, by rw [z]; rfl, fun _ => rfl⟩
    · exact ⟨decide (V < 0), x, h, by unfold mdW Fq.wD; rw [if_neg z], fun h0 => absurd h0 z⟩
/-- the middle, by the ends -/
def mdP (n : Bool) (m : Nat) (g : Bool) (r : Nat) : Nat := if m = 9218868437227405312 then (if r = 9218868437227405312 then 0 else 18442240474082181119) else if r = 9218868437227405312 then 9218868437227405311 else hfW (Iv n m + Iv g r)
theorem mdP_pat (n : Bool) (m : Nat) (g : Bool) (r : Nat) : ∃ s x, x ≤ 9218868437227405312 ∧ mdP n m g r = Fq.wD s x ∧ (x = 0 → s = false) := by
  unfold mdP
  by_cases c1 : m = 9218868437227405312
  · rw [if_pos c1]
    by_cases c2 : r = 9218868437227405312
    · rw [if_pos c2]; exact ⟨false, 0, by decide, rfl, fun _ => rfl⟩
    · rw [if_neg c2]; exact ⟨true, 9218868437227405311, by decide, rfl, fun h => absurd h (by decide)⟩
  · rw [if_neg c1]
    by_cases c2 : r = 9218868437227405312
    · rw [if_pos c2]; exact ⟨false, 9218868437227405311, by decide, rfl, fun _ => rfl⟩
    · rw [if_neg c2]; exact hfW_pat _
theorem midS8_ (a b : Nat) (ha : a < 18446744073709551616) (hb : b < 18446744073709551616) (s1 : Fq.snd a b = true) (n g : Bool) (m r : Nat) (l1 : m ≤ 9218868437227405312) (l2 : r ≤ 9218868437227405312) (e1 : Fq.rlo a b = Fq.wD n m) (e2 : Fq.rhi a b = Fq.wD g r) (w : World) : Calls Tryz.prog 17 #[.agg #[.float .f64 a, .float .f64 b]] w fun e w' => e = .returned (.float .f64 (mdP n m g r)) ∧ Kp w w' := by
  have hp := Fq.read_ a b ha hb
  have hv := void8_ a b ha hb false (by simpa using s1)
  have i1 := rlo_inf a b s1 n m e1
  have i2 := rhi_inf a b s1 g r e2
  rw [e1, e2] at hp hv
  have q1 := Fq.feq n true m 9218868437227405312 (by omega) (by decide)
  have q2 := Fq.feq g false r 9218868437227405312 (by omega) (by decide)
  have t1 := Fq.flt n true m 9218868437227405311 (by omega) (by decide)
  have t2 := fgt8 g false r 9218868437227405311 (by omega) (by decide)
  rw [show Fq.wD true 9218868437227405312 = 18442240474082181120 from rfl] at q1
  rw [show Fq.wD false 9218868437227405312 = 9218868437227405312 from rfl] at q2
  rw [show Fq.wD true 9218868437227405311 = 18442240474082181119 from rfl] at t1
  rw [show Fq.wD false 9218868437227405311 = 9218868437227405311 from rfl] at t2
  have P1 : Fq.plz n m = if n then -(m : Int) else m := by unfold Fq.plz; cases n <;> rfl
  have P2 : Fq.plz g r = if g then -(r : Int) else r := by unfold Fq.plz; cases g <;> rfl
  have P3 : Fq.plz true 9218868437227405312 = -9218868437227405312 := rfl
  have P4 : Fq.plz false 9218868437227405312 = 9218868437227405312 := rfl
  have P5 : Fq.plz true 9218868437227405311 = -9218868437227405311 := rfl
  have P6 : Fq.plz false 9218868437227405311 = 9218868437227405311 := rfl
  rw [P1, P3] at q1
  rw [P2, P4] at q2
  rw [P1, P5] at t1
  rw [P2, P6] at t2
  unfold mdP
  by_cases c1 : m = 9218868437227405312
  · have nn := i1 c1
    rw [decide_eq_true ⟨l1, by decide, by rw [nn, c1]; rfl⟩] at q1
    rw [decide_eq_true ⟨l1, by decide, by rw [nn, c1]; decide⟩] at t1
    rw [if_pos c1]
    by_cases c2 : r = 9218868437227405312
    · have gg := i2 c2
      rw [decide_eq_true ⟨l2, by decide, by rw [gg, c2]; rfl⟩] at q2
      rw [if_pos c2]
      exact midE_ a b _ _ hp hv q1 q2 w
    · rw [decide_eq_false (by cases g <;> simp <;> omega)] at q2
      rw [if_neg c2]
      exact midL_ a b _ _ hp hv q1 q2 t1 w
  · rw [decide_eq_false (by cases n <;> simp <;> omega)] at q1
    rw [decide_eq_false (by cases n <;> simp <;> omega)] at t1
    rw [if_neg c1]
    by_cases c2 : r = 9218868437227405312
    · have gg := i2 c2
      rw [decide_eq_true ⟨l2, by decide, by rw [gg, c2]; decide⟩] at t2
      rw [if_pos c2]
      exact midH_ a b _ _ hp hv q1 t1 t2 w
    · rw [decide_eq_false (by cases g <;> simp <;> omega)] at t2
      rw [if_neg c2]
      exact midF_ a b _ _ hp hv q1 t1 t2 _ (half8_ n g m r (by omega) (by omega)) w
theorem rmidS8_ (a b : Nat) (ha : a < 18446744073709551616) (hb : b < 18446744073709551616) (s1 : Fq.snd a b = true) (n g : Bool) (m r : Nat) (l1 : m ≤ 9218868437227405312) (l2 : r ≤ 9218868437227405312) (e1 : Fq.rlo a b = Fq.wD n m) (e2 : Fq.rhi a b = Fq.wD g r) (w : World) : Calls Tryz.prog 11 #[.agg #[.int .u64 ((a : Nat) : Int), .int .u64 ((b : Nat) : Int)]] w fun e w' => e = .returned (.int .u64 ((mdP n m g r : Nat) : Int)) ∧ Kp w w' := by
  have hr := rread8 a b ha hb
  have t1 := lo_inf8 a b s1 n m l1 e1
  have i1 := rlo_inf a b s1 n m e1
  have i2 := rhi_inf a b s1 g r e2
  rw [e1, e2] at hr
  unfold mdP
  by_cases c1 : m = 9218868437227405312
  · have nn := i1 c1
    have u1 : ((((Fq.wD n m : Nat) : Int)) == 18442240474082181120) = true := by rw [nn, c1]; rfl
    rw [if_pos c1]
    by_cases c2 : r = 9218868437227405312
    · have gg := i2 c2
      have u2 : ((((Fq.wD g r : Nat) : Int)) == 9218868437227405312) = true := by rw [gg, c2]; rfl
      rw [if_pos c2]
      exact rmidE_ _ _ _ _ hr t1 u1 u2 w
    · have u2 : ((((Fq.wD g r : Nat) : Int)) == 9218868437227405312) = false := by
        have : Fq.wD g r ≠ 9218868437227405312 := by unfold Fq.wD; cases g <;> simp <;> omega
        simp; omega
      rw [if_neg c2]
      exact rmidL_ _ _ _ _ hr t1 u1 u2 w
  · have u1 : ((((Fq.wD n m : Nat) : Int)) == 18442240474082181120) = false := by
      have : Fq.wD n m ≠ 18442240474082181120 := by unfold Fq.wD; cases n <;> simp <;> omega
      simp; omega
    rw [if_neg c1]
    by_cases c2 : r = 9218868437227405312
    · have gg := i2 c2
      have u2 : ((((Fq.wD g r : Nat) : Int)) == 9218868437227405312) = true := by rw [gg, c2]; rfl
      rw [if_pos c2]
      exact rmidH_ _ _ _ _ hr t1 u1 u2 w
    · have u2 : ((((Fq.wD g r : Nat) : Int)) == 9218868437227405312) = false := by
        have : Fq.wD g r ≠ 9218868437227405312 := by unfold Fq.wD; cases g <;> simp <;> omega
        simp; omega
      rw [if_neg c2]
      exact rmidF_ _ _ _ _ n g m r hr t1 u1 u2 (fromR_ n m (by omega)) (fromR_ g r (by omega)) w
theorem mid_both (a b : Nat) (ha : a < 18446744073709551616) (hb : b < 18446744073709551616) : ∃ (s : Bool) (x : Nat), (∀ w : World, Calls Tryz.prog 17 #[.agg #[.float .f64 a, .float .f64 b]] w fun e w' => e = .returned (.float .f64 (Fq.wD s x)) ∧ Kp w w') ∧ (∀ w : World, Calls Tryz.prog 11 #[.agg #[.int .u64 ((a : Nat) : Int), .int .u64 ((b : Nat) : Int)]] w fun e w' => e = .returned (.int .u64 ((Fq.wD s x : Nat) : Int)) ∧ Kp w w') ∧ (x ≤ 9218868437227405312 ∨ (s = false ∧ x = 9221120237041090561)) := by
  by_cases s1 : Fq.snd a b = true
  · obtain ⟨n, m, l1, e1⟩ := rlo_w a b ha hb
    obtain ⟨g, r, l2, e2⟩ := rhi_w a b ha hb
    obtain ⟨s, x, lx, ex, -⟩ := mdP_pat n m g r
    exact ⟨s, x, fun w => by rw [← ex]; exact midS8_ a b ha hb s1 n g m r l1 l2 e1 e2 w, fun w => by rw [← ex]; exact rmidS8_ a b ha hb s1 n g m r l1 l2 e1 e2 w, Or.inl lx⟩
  · have s1 : Fq.snd a b = false := by simpa using s1
    have q := rempty8 a b s1
    have hr := rread8 a b ha hb
    have hv := void8_ a b ha hb true (by simpa using s1)
    rw [q.1, q.2] at hr
    exact ⟨false, 9221120237041090561, fun w => midN_ a b _ _ (Fq.read_ a b ha hb) hv w, fun w => rmidN_ _ _ _ _ hr (by decide) (by decide) w, Or.inr ⟨rfl, rfl⟩⟩
theorem isW8_ (s : Bool) (x : Nat) (h : x ≤ 9218868437227405312 ∨ (s = false ∧ x = 9221120237041090561)) (w : World) : Calls Tryz.prog 8 #[.float .f64 (Fq.wD s x), .int .u64 ((Fq.wD s x : Nat) : Int)] w fun e w' => e = .returned (.bool true) ∧ Kp w w' := by
  rcases h with h | ⟨h1, h2⟩
  · exact (is8_ s x h w).mono (fun e w' h => ⟨h.1, by rw [h.2]; exact Kp.refl _⟩)
  · subst h1 h2
    exact (isN8_ w).mono (fun e w' h => ⟨h.1, by rw [h.2]; exact Kp.refl _⟩)
set_option maxRecDepth 20000 in
set_option maxHeartbeats 1000000 in
theorem mradN_ (a b LO HI M9 : Nat) (hr : ∀ w : World, Calls Tryz.prog 16 #[.agg #[.float .f64 a, .float .f64 b]] w fun e w' => e = .returned (.agg #[.float .f64 LO, .float .f64 HI]) ∧ Kp w w') (hm : ∀ w : World, Calls Tryz.prog 17 #[.agg #[.float .f64 LO, .float .f64 HI]] w fun e w' => e = .returned (.float .f64 M9) ∧ Kp w w') (hv : ∀ w : World, Calls Tryz.prog 18 #[.agg #[.float .f64 LO, .float .f64 HI]] w fun e w' => e = .returned (.bool true) ∧ Kp w w') (w : World) : Calls Tryz.prog 6 #[.agg #[.float .f64 a, .float .f64 b]] w fun e w' => e = .returned (.tuple #[.float .f64 M9, .float .f64 9221120237041090561]) ∧ Kp w w' := by
  go_enter Tryz.func6, Tryz.ntmps6
  go_wp2_with (first | (go_at_call 16; refine (hr _).mono ?_; rintro e w1 ⟨rfl, g1⟩; have q0 := Fq.H2.keep (Fq.H2.new w (.float .f64 a) (.float .f64 b) 29) g1; have kw : Kp w w1 := Kp.trans ((Kp.refl w).alloc _) g1; obtain ⟨x0, x1, x2, x3⟩ := id q0) | (go_at_call 17; refine (hm _).mono ?_; rintro e w2 ⟨rfl, g2⟩; have qx := Fq.H2.keep (Fq.H2.put q0 (.float .f64 LO) (.float .f64 HI)) g2; have km : Kp w w2 := Kp.trans ((kw.setCell (Nat.le_refl _) _).setCell (Nat.le_refl _) _) g2; obtain ⟨u0, u1, u2, u3⟩ := id qx) | (go_at_call 18; refine (hv _).mono ?_; rintro e w3 ⟨rfl, g3⟩; have qv := Fq.H2.keep qx g3; have kv : Kp w w3 := Kp.trans km g3; obtain ⟨v0, v1, v2, v3⟩ := id qv) | (go_at_call 19; refine (nan8_ _).mono ?_; rintro e w4 ⟨rfl, g4⟩; have kn : Kp w w4 := Kp.trans kv g4))
  exact bodyPost_ret (v := .tuple #[.float .f64 M9, .float .f64 9221120237041090561]) (by simp [results, Tryz.results6, go_sem]) rfl ⟨rfl, kn⟩
set_option maxRecDepth 20000 in
set_option maxHeartbeats 2000000 in
theorem mradS_ (a b LO HI M9 : Nat) (hr : ∀ w : World, Calls Tryz.prog 16 #[.agg #[.float .f64 a, .float .f64 b]] w fun e w' => e = .returned (.agg #[.float .f64 LO, .float .f64 HI]) ∧ Kp w w') (hm : ∀ w : World, Calls Tryz.prog 17 #[.agg #[.float .f64 LO, .float .f64 HI]] w fun e w' => e = .returned (.float .f64 M9) ∧ Kp w w') (hv : ∀ w : World, Calls Tryz.prog 18 #[.agg #[.float .f64 LO, .float .f64 HI]] w fun e w' => e = .returned (.bool false) ∧ Kp w w') (PL PH G9 : Nat) (w : World) (hA1 : ∀ W : World, Kp w W → Calls Tryz.prog 21 #[.float .f64 LO, .float .f64 M9] W fun e w' => e = .returned (.float .f64 PL) ∧ Kp W w') (hA2 : ∀ W : World, Kp w W → Calls Tryz.prog 21 #[.float .f64 M9, .float .f64 HI] W fun e w' => e = .returned (.float .f64 PH) ∧ Kp W w') (hg : ∀ w : World, Calls Tryz.prog 20 #[.float .f64 PL, .float .f64 PH] w fun e w' => e = .returned (.float .f64 G9) ∧ w' = w) : Calls Tryz.prog 6 #[.agg #[.float .f64 a, .float .f64 b]] w fun e w' => e = .returned (.tuple #[.float .f64 M9, .float .f64 G9]) ∧ Kp w w' := by
  go_enter Tryz.func6, Tryz.ntmps6
  go_wp2_with (first | (go_at_call 16; refine (hr _).mono ?_; rintro e w1 ⟨rfl, g1⟩; have q0 := Fq.H2.keep (Fq.H2.new w (.float .f64 a) (.float .f64 b) 29) g1; have kw : Kp w w1 := Kp.trans ((Kp.refl w).alloc _) g1; obtain ⟨x0, x1, x2, x3⟩ := id q0) | (go_at_call 17; refine (hm _).mono ?_; rintro e w2 ⟨rfl, g2⟩; have qx := Fq.H2.keep (Fq.H2.put q0 (.float .f64 LO) (.float .f64 HI)) g2; have km : Kp w w2 := Kp.trans ((kw.setCell (Nat.le_refl _) _).setCell (Nat.le_refl _) _) g2; obtain ⟨u0, u1, u2, u3⟩ := id qx) | (go_at_call 18; refine (hv _).mono ?_; rintro e w3 ⟨rfl, g3⟩; have qv := Fq.H2.keep qx g3; have kv : Kp w w3 := Kp.trans km g3; obtain ⟨v0, v1, v2, v3⟩ := id qv))
  refine Fq.wp_region_grow (by kernel_rfl) (by kernel_rfl) (fun ι _ G hG hall => ?_)
  have cc0 : ∀ n, (G n).cell? ⟨w.heap.size, 0, none⟩ = some (.float .f64 LO) := fun n => Fq.gkeep (hG n) v0
  have cc1 : ∀ n, (G n).cell? ⟨w.heap.size, 1, none⟩ = some (.float .f64 HI) := fun n => Fq.gkeep (hG n) v1
  have kG : ∀ n, Kp w (G n) := fun n => Kp.trans kv (hG n)
  repeat (go_big_quiet_step (first | (go_at_call_of 21 (Value.float .f64 LO); exact (hA1 _ (kG _)).mono (fun e w' h => ⟨h.1, hall _ (Fq.gtrans (hG _) h.2)⟩)) | (go_at_call_of 21 (Value.float .f64 HI); exact (hA2 _ (kG _)).mono (fun e w' h => ⟨h.1, hall _ (Fq.gtrans (hG _) h.2)⟩)) | (go_at_call 20; exact (hg _).mono (fun e w' h => ⟨h.1, hall _ (by rw [h.2]; exact hG _)⟩))))
  refine wpQuiet_nil ?_
  rintro _ ⟨nq, rfl⟩
  have gq := kG nq
  clear cc0 cc1 hall hG kG
  go_wp2
  exact bodyPost_ret (v := .tuple #[.float .f64 M9, .float .f64 G9]) (by simp [results, Tryz.results6, go_sem]) rfl ⟨rfl, gq⟩
set_option maxRecDepth 20000 in
set_option maxHeartbeats 1000000 in
theorem radP_ (a b M9 G9 : Nat) (w : World) (h1 : ∀ W : World, Kp w W → Calls Tryz.prog 6 #[.agg #[.float .f64 a, .float .f64 b]] W fun e w' => e = .returned (.tuple #[.float .f64 M9, .float .f64 G9]) ∧ Kp W w') : Calls Tryz.prog 9 #[.agg #[.float .f64 a, .float .f64 b]] w fun e w' => e = .returned (.float .f64 G9) ∧ Kp w w' := by
  go_enter Tryz.func9, Tryz.ntmps9
  go_wp2_with (first | (go_at_call 6; refine (h1 _ ((Kp.refl w).alloc _)).mono ?_; rintro e w1 ⟨rfl, g1⟩; have k1 : Kp w w1 := Kp.trans ((Kp.refl w).alloc _) g1))
  exact bodyPost_ret (v := .float .f64 G9) (by simp [results, Tryz.results9, go_sem]) rfl ⟨rfl, k1⟩
set_option maxRecDepth 20000 in
set_option maxHeartbeats 1000000 in
theorem rgrB_ (C9 : Int) (s : Bool) (p : Option Addr) (l c : Nat) (q : Option Addr) (k d : Nat) (s2 : Bool) (p2 : Option Addr) (l2 c2 : Nat) (q2 : Option Addr) (k2 d2 : Nat) (t : C9 < 0) (w : World) (hc : ∀ W : World, Kp w W → Calls Tryz.prog 51 #[.agg #[.bool s, .slice p l c, .slice q k d], .agg #[.bool s2, .slice p2 l2 c2, .slice q2 k2 d2]] W fun e w' => e = .returned (.int .i64 C9) ∧ Kp W w') : Calls Tryz.prog 31 #[.agg #[.bool s, .slice p l c, .slice q k d], .agg #[.bool s2, .slice p2 l2 c2, .slice q2 k2 d2]] w fun e w' => e = .returned (.agg #[.bool s2, .slice p2 l2 c2, .slice q2 k2 d2]) ∧ Kp w w' := by
  go_enter Tryz.func31, Tryz.ntmps31
  go_wp2_with (first | (go_at_call 51; refine (hc _ ((((Kp.refl w).alloc _).alloc _).alloc _)).mono ?_; rintro e w1 ⟨rfl, g1⟩; have k1 : Kp w w1 := Kp.trans ((((Kp.refl w).alloc _).alloc _).alloc _) g1; have x0 := kkeep g1 (b := w.heap.size) (o := 0) (v := .bool s) (by simp [go_sem]); have xz0 : w1.frozen? ⟨w.heap.size, 0, none⟩ = false := (kfro g1 (by simp <;> omega)).trans (by simp [go_sem]); have x1 := kkeep g1 (b := w.heap.size) (o := 1) (v := .slice p l c) (by simp [go_sem]); have xz1 : w1.frozen? ⟨w.heap.size, 1, none⟩ = false := (kfro g1 (by simp <;> omega)).trans (by simp [go_sem]); have x2 := kkeep g1 (b := w.heap.size) (o := 2) (v := .slice q k d) (by simp [go_sem]); have xz2 : w1.frozen? ⟨w.heap.size, 2, none⟩ = false := (kfro g1 (by simp <;> omega)).trans (by simp [go_sem]); have y0 := kkeep g1 (b := w.heap.size + 1) (o := 0) (v := .bool s2) (by simp [go_sem]); have yz0 : w1.frozen? ⟨w.heap.size + 1, 0, none⟩ = false := (kfro g1 (by simp <;> omega)).trans (by simp [go_sem]); have y1 := kkeep g1 (b := w.heap.size + 1) (o := 1) (v := .slice p2 l2 c2) (by simp [go_sem]); have yz1 : w1.frozen? ⟨w.heap.size + 1, 1, none⟩ = false := (kfro g1 (by simp <;> omega)).trans (by simp [go_sem]); have y2 := kkeep g1 (b := w.heap.size + 1) (o := 2) (v := .slice q2 k2 d2) (by simp [go_sem]); have yz2 : w1.frozen? ⟨w.heap.size + 1, 2, none⟩ = false := (kfro g1 (by simp <;> omega)).trans (by simp [go_sem]); have r0 := kkeep g1 (b := w.heap.size + 2) (o := 0) (v := .bool false) (by simp [go_sem]); have rz0 : w1.frozen? ⟨w.heap.size + 2, 0, none⟩ = false := (kfro g1 (by simp <;> omega)).trans (by simp [go_sem]); have r1 := kkeep g1 (b := w.heap.size + 2) (o := 1) (v := .slice none 0 0) (by simp [go_sem]); have rz1 : w1.frozen? ⟨w.heap.size + 2, 1, none⟩ = false := (kfro g1 (by simp <;> omega)).trans (by simp [go_sem]); have r2 := kkeep g1 (b := w.heap.size + 2) (o := 2) (v := .slice none 0 0) (by simp [go_sem]); have rz2 : w1.frozen? ⟨w.heap.size + 2, 2, none⟩ = false := (kfro g1 (by simp <;> omega)).trans (by simp [go_sem])))
  exact bodyPost_ret (v := .agg #[.bool s2, .slice p2 l2 c2, .slice q2 k2 d2]) (by simp [results, Tryz.results31, go_sem, r0, r1, r2]) rfl ⟨rfl, (((k1).setCell (by simp <;> omega) _).setCell (by simp <;> omega) _).setCell (by simp <;> omega) _⟩
set_option maxRecDepth 20000 in
set_option maxHeartbeats 1000000 in
theorem rgrA_ (C9 : Int) (s : Bool) (p : Option Addr) (l c : Nat) (q : Option Addr) (k d : Nat) (s2 : Bool) (p2 : Option Addr) (l2 c2 : Nat) (q2 : Option Addr) (k2 d2 : Nat) (t : ¬ (C9 < 0)) (w : World) (hc : ∀ W : World, Kp w W → Calls Tryz.prog 51 #[.agg #[.bool s, .slice p l c, .slice q k d], .agg #[.bool s2, .slice p2 l2 c2, .slice q2 k2 d2]] W fun e w' => e = .returned (.int .i64 C9) ∧ Kp W w') : Calls Tryz.prog 31 #[.agg #[.bool s, .slice p l c, .slice q k d], .agg #[.bool s2, .slice p2 l2 c2, .slice q2 k2 d2]] w fun e w' => e = .returned (.agg #[.bool s, .slice p l c, .slice q k d]) ∧ Kp w w' := by
  go_enter Tryz.func31, Tryz.ntmps31
  go_wp2_with (first | (go_at_call 51; refine (hc _ ((((Kp.refl w).alloc _).alloc _).alloc _)).mono ?_; rintro e w1 ⟨rfl, g1⟩; have k1 : Kp w w1 := Kp.trans ((((Kp.refl w).alloc _).alloc _).alloc _) g1; have x0 := kkeep g1 (b := w.heap.size) (o := 0) (v := .bool s) (by simp [go_sem]); have xz0 : w1.frozen? ⟨w.heap.size, 0, none⟩ = false := (kfro g1 (by simp <;> omega)).trans (by simp [go_sem]); have x1 := kkeep g1 (b := w.heap.size) (o := 1) (v := .slice p l c) (by simp [go_sem]); have xz1 : w1.frozen? ⟨w.heap.size, 1, none⟩ = false := (kfro g1 (by simp <;> omega)).trans (by simp [go_sem]); have x2 := kkeep g1 (b := w.heap.size) (o := 2) (v := .slice q k d) (by simp [go_sem]); have xz2 : w1.frozen? ⟨w.heap.size, 2, none⟩ = false := (kfro g1 (by simp <;> omega)).trans (by simp [go_sem]); have y0 := kkeep g1 (b := w.heap.size + 1) (o := 0) (v := .bool s2) (by simp [go_sem]); have yz0 : w1.frozen? ⟨w.heap.size + 1, 0, none⟩ = false := (kfro g1 (by simp <;> omega)).trans (by simp [go_sem]); have y1 := kkeep g1 (b := w.heap.size + 1) (o := 1) (v := .slice p2 l2 c2) (by simp [go_sem]); have yz1 : w1.frozen? ⟨w.heap.size + 1, 1, none⟩ = false := (kfro g1 (by simp <;> omega)).trans (by simp [go_sem]); have y2 := kkeep g1 (b := w.heap.size + 1) (o := 2) (v := .slice q2 k2 d2) (by simp [go_sem]); have yz2 : w1.frozen? ⟨w.heap.size + 1, 2, none⟩ = false := (kfro g1 (by simp <;> omega)).trans (by simp [go_sem]); have r0 := kkeep g1 (b := w.heap.size + 2) (o := 0) (v := .bool false) (by simp [go_sem]); have rz0 : w1.frozen? ⟨w.heap.size + 2, 0, none⟩ = false := (kfro g1 (by simp <;> omega)).trans (by simp [go_sem]); have r1 := kkeep g1 (b := w.heap.size + 2) (o := 1) (v := .slice none 0 0) (by simp [go_sem]); have rz1 : w1.frozen? ⟨w.heap.size + 2, 1, none⟩ = false := (kfro g1 (by simp <;> omega)).trans (by simp [go_sem]); have r2 := kkeep g1 (b := w.heap.size + 2) (o := 2) (v := .slice none 0 0) (by simp [go_sem]); have rz2 : w1.frozen? ⟨w.heap.size + 2, 2, none⟩ = false := (kfro g1 (by simp <;> omega)).trans (by simp [go_sem])))
  exact bodyPost_ret (v := .agg #[.bool s, .slice p l c, .slice q k d]) (by simp [results, Tryz.results31, go_sem, r0, r1, r2]) rfl ⟨rfl, (((k1).setCell (by simp <;> omega) _).setCell (by simp <;> omega) _).setCell (by simp <;> omega) _⟩
theorem rgreater8_ (V V' : Int) (s : Bool) (p : Option Addr) (l c : Nat) (q : Option Addr) (k d : Nat) (s2 : Bool) (p2 : Option Addr) (l2 c2 : Nat) (q2 : Option Addr) (k2 d2 : Nat) (B1 B2 : Nat) (w : World) (h1 : VP B1 w s p l c q k d V) (h2 : VP B2 w s2 p2 l2 c2 q2 k2 d2 V') : Calls Tryz.prog 31 #[.agg #[.bool s, .slice p l c, .slice q k d], .agg #[.bool s2, .slice p2 l2 c2, .slice q2 k2 d2]] w fun e w' => ∃ (s3 : Bool) (p3 : Option Addr) (l3 c3 : Nat) (q3 : Option Addr) (k3 d3 : Nat) (B3 : Nat), e = .returned (.agg #[.bool s3, .slice p3 l3 c3, .slice q3 k3 d3]) ∧ VP B3 w' s3 p3 l3 c3 q3 k3 d3 (if V < V' then V' else V) ∧ Kp w w' := by
  have hc := fun W (g : Kp w W) => vcmp_ B1 B2 V V' s p l c q k d s2 p2 l2 c2 q2 k2 d2 W (h1.kp g) (h2.kp g)
  by_cases t : V < V'
  · rw [if_pos t]
    rw [cmI_lt _ _ t] at hc
    refine (rgrB_ (-1) s p l c q k d s2 p2 l2 c2 q2 k2 d2 (by decide) w hc).mono ?_
    rintro e w' ⟨rfl, g⟩
    exact ⟨s2, p2, l2, c2, q2, k2, d2, B2, rfl, h2.kp g, g⟩
  · rw [if_neg t]
    have t2 : ¬ (cmI V V' < 0) := by
      by_cases t3 : V' < V
      · rw [cmI_gt _ _ t3]; decide
      · rw [show V = V' from by omega, cmI_eq]; decide
    refine (rgrA_ _ s p l c q k d s2 p2 l2 c2 q2 k2 d2 t2 w hc).mono ?_
    rintro e w' ⟨rfl, g⟩
    exact ⟨s, p, l, c, q, k, d, B1, rfl, h1.kp g, g⟩
set_option maxRecDepth 20000 in
set_option maxHeartbeats 1000000 in
theorem rradN_ (X Y LO HI : Int) (hr : ∀ w : World, Calls Tryz.prog 25 #[.agg #[.int .u64 X, .int .u64 Y]] w fun e w' => e = .returned (.agg #[.int .u64 LO, .int .u64 HI]) ∧ Kp w w') (t1 : (LO == 9218868437227405312) = true) (t2 : (HI == 18442240474082181120) = true) (w : World) : Calls Tryz.prog 10 #[.agg #[.int .u64 X, .int .u64 Y]] w fun e w' => e = .returned (.int .u64 9221120237041090561) ∧ Kp w w' := by
  go_enter Tryz.func10, Tryz.ntmps10
  go_wp2_with (first | (go_at_call 25; refine (hr _).mono ?_; rintro e w1 ⟨rfl, g1⟩; have kw : Kp w w1 := Kp.trans ((Kp.refl w).alloc _) g1))
  refine Fq.wp_region_grow (by kernel_rfl) (by kernel_rfl) (fun ι _ G hG hall => ?_)
  have c0 : ∀ n, (G n).cell? ⟨w1.heap.size, 0, none⟩ = some (.int .u64 LO) := fun n => Fq.gkeep (hG n) (by simp [go_sem])
  have c1 : ∀ n, (G n).cell? ⟨w1.heap.size, 1, none⟩ = some (.int .u64 HI) := fun n => Fq.gkeep (hG n) (by simp [go_sem])
  have kG : ∀ n, Kp w1 (G n) := fun n => Kp.trans ((Kp.refl w1).alloc _) (hG n)
  repeat (go_big_quiet_step (first | (go_at_call 26; exact (Fq.rempty_ _).mono (fun e w' h => ⟨h.1, hall _ (by rw [h.2]; exact (hG _).alloc _ _)⟩))))
  refine wpQuiet_nil ?_
  rintro _ ⟨nq, rfl⟩
  have y0 := c0 nq
  have y1 := c1 nq
  have kW := kG nq
  clear c0 c1 kG hall
  generalize G nq = W at y0 y1 kW ⊢
  clear hG
  go_wp2
  exact bodyPost_ret (v := .int .u64 9221120237041090561) (by simp [results, Tryz.results10, go_sem]) rfl ⟨rfl, Kp.trans kw kW⟩
set_option maxRecDepth 20000 in
set_option maxHeartbeats 1000000 in
theorem rradI_ (X Y LO HI : Int) (hr : ∀ w : World, Calls Tryz.prog 25 #[.agg #[.int .u64 X, .int .u64 Y]] w fun e w' => e = .returned (.agg #[.int .u64 LO, .int .u64 HI]) ∧ Kp w w') (t1 : (LO == 9218868437227405312) = false) (hw : ∀ w : World, Calls Tryz.prog 27 #[.agg #[.int .u64 LO, .int .u64 HI]] w fun e w' => e = .returned (.bool true) ∧ Kp w w') (w : World) : Calls Tryz.prog 10 #[.agg #[.int .u64 X, .int .u64 Y]] w fun e w' => e = .returned (.int .u64 9218868437227405312) ∧ Kp w w' := by
  go_enter Tryz.func10, Tryz.ntmps10
  go_wp2_with (first | (go_at_call 25; refine (hr _).mono ?_; rintro e w1 ⟨rfl, g1⟩; have kw : Kp w w1 := Kp.trans ((Kp.refl w).alloc _) g1))
  refine Fq.wp_region_grow (by kernel_rfl) (by kernel_rfl) (fun ι _ G hG hall => ?_)
  have c0 : ∀ n, (G n).cell? ⟨w1.heap.size, 0, none⟩ = some (.int .u64 LO) := fun n => Fq.gkeep (hG n) (by simp [go_sem])
  have c1 : ∀ n, (G n).cell? ⟨w1.heap.size, 1, none⟩ = some (.int .u64 HI) := fun n => Fq.gkeep (hG n) (by simp [go_sem])
  have kG : ∀ n, Kp w1 (G n) := fun n => Kp.trans ((Kp.refl w1).alloc _) (hG n)
  repeat (go_big_quiet_step (first | (go_at_call 26; exact (Fq.rempty_ _).mono (fun e w' h => ⟨h.1, hall _ (by rw [h.2]; exact (hG _).alloc _ _)⟩))))
  refine wpQuiet_nil ?_
  rintro _ ⟨nq, rfl⟩
  have y0 := c0 nq
  have y1 := c1 nq
  have kW := kG nq
  clear c0 c1 kG hall
  generalize G nq = W at y0 y1 kW ⊢
  clear hG
  go_wp2_with (first | (go_at_call 27; refine (hw _).mono ?_; rintro e w2 ⟨rfl, g2⟩; have z0 := kkeep g2 y0; have z1 := kkeep g2 y1; have kz : Kp w w2 := Kp.trans (Kp.trans kw kW) g2))
  exact bodyPost_ret (v := .int .u64 9218868437227405312) (by simp [results, Tryz.results10, go_sem]) rfl ⟨rfl, kz⟩
set_option linter.unusedSimpArgs false
set_option maxRecDepth 20000 in
set_option maxHeartbeats 4000000 in
theorem rradF_ (X Y LO HI MM : Int) (N1 N2 N3 : Bool) (M1 M2 M3 : Nat) (hr : ∀ w : World, Calls Tryz.prog 25 #[.agg #[.int .u64 X, .int .u64 Y]] w fun e w' => e = .returned (.agg #[.int .u64 LO, .int .u64 HI]) ∧ Kp w w') (t1 : (LO == 9218868437227405312) = false) (hw : ∀ w : World, Calls Tryz.prog 27 #[.agg #[.int .u64 LO, .int .u64 HI]] w fun e w' => e = .returned (.bool false) ∧ Kp w w') (hmid : ∀ w : World, Calls Tryz.prog 11 #[.agg #[.int .u64 LO, .int .u64 HI]] w fun e w' => e = .returned (.int .u64 MM) ∧ Kp w w') (hf1 : ∀ w : World, Calls Tryz.prog 28 #[.int .u64 LO] w fun e w' => ∃ (s : Bool) (p : Option Addr) (l c : Nat) (q : Option Addr) (k d : Nat), e = .returned (.agg #[.bool s, .slice p l c, .slice q k d]) ∧ RP w.heap.size w' s p l c q k d N1 M1 ∧ Kp w w') (hf2 : ∀ w : World, Calls Tryz.prog 28 #[.int .u64 HI] w fun e w' => ∃ (s : Bool) (p : Option Addr) (l c : Nat) (q : Option Addr) (k d : Nat), e = .returned (.agg #[.bool s, .slice p l c, .slice q k d]) ∧ RP w.heap.size w' s p l c q k d N2 M2 ∧ Kp w w') (hf3 : ∀ w : World, Calls Tryz.prog 28 #[.int .u64 MM] w fun e w' => ∃ (s : Bool) (p : Option Addr) (l c : Nat) (q : Option Addr) (k d : Nat), e = .returned (.agg #[.bool s, .slice p l c, .slice q k d]) ∧ RP w.heap.size w' s p l c q k d N3 M3 ∧ Kp w w') (R9 : Int) (hR : Hid ((if Iv N3 M3 - Iv N1 M1 < Iv N2 M2 - Iv N3 M3 then Iv N2 M2 - Iv N3 M3 else Iv N3 M3 - Iv N1 M1) = R9)) (w : World) : Calls Tryz.prog 10 #[.agg #[.int .u64 X, .int .u64 Y]] w fun e w' => e = .returned (.int .u64 ((sumW 1 R9 : Nat) : Int)) ∧ Kp w w' := by
  go_enter Tryz.func10, Tryz.ntmps10
  go_wp2_with (first | (go_at_call 25; refine (hr _).mono ?_; rintro e w1 ⟨rfl, g1⟩; have kw : Kp w w1 := Kp.trans ((Kp.refl w).alloc _) g1))
  refine Fq.wp_region_grow (by kernel_rfl) (by kernel_rfl) (fun ι _ G hG hall => ?_)
  have c0 : ∀ n, (G n).cell? ⟨w1.heap.size, 0, none⟩ = some (.int .u64 LO) := fun n => Fq.gkeep (hG n) (by simp [go_sem])
  have c1 : ∀ n, (G n).cell? ⟨w1.heap.size, 1, none⟩ = some (.int .u64 HI) := fun n => Fq.gkeep (hG n) (by simp [go_sem])
  have kG : ∀ n, Kp w1 (G n) := fun n => Kp.trans ((Kp.refl w1).alloc _) (hG n)
  repeat (go_big_quiet_step (first | (go_at_call 26; exact (Fq.rempty_ _).mono (fun e w' h => ⟨h.1, hall _ (by rw [h.2]; exact (hG _).alloc _ _)⟩))))
  refine wpQuiet_nil ?_
  rintro _ ⟨nq, rfl⟩
  have y0 := c0 nq
  have y1 := c1 nq
  have kW := kG nq
  clear c0 c1 kG hall
  generalize G nq = W at y0 y1 kW ⊢
  clear hG
  go_wp2_with (first | (go_at_call 27; refine (hw _).mono ?_; rintro e w2 ⟨rfl, g2⟩; have z0 := kkeep g2 y0; have z1 := kkeep g2 y1; have kz : Kp w w2 := Kp.trans (Kp.trans kw kW) g2) | (go_at_call 11; refine (hmid _).mono ?_; rintro e w3 ⟨rfl, g3⟩) | (go_at_call 28; refine (hf3 _).mono ?_; rintro e w4 ⟨s, p, l, c, q, k, d, rfl, hp, g4⟩; have k24 : Kp w2 w4 := Kp.trans g3 g4))
  have t0 : (w4.alloc (.cells #[.bool s, .slice p l c, .slice q k d] 49)).cell? ⟨w1.heap.size, 0, none⟩ = some (.int .u64 LO) := kkeep ((Kp.refl w4).alloc _) (kkeep k24 z0)
  have t1' : (w4.alloc (.cells #[.bool s, .slice p l c, .slice q k d] 49)).cell? ⟨w1.heap.size, 1, none⟩ = some (.int .u64 HI) := kkeep ((Kp.refl w4).alloc _) (kkeep k24 z1)
  have t2 : (w4.alloc (.cells #[.bool s, .slice p l c, .slice q k d] 49)).cell? ⟨w4.heap.size, 0, none⟩ = some (.bool s) := by simp [go_sem]
  have t3 : (w4.alloc (.cells #[.bool s, .slice p l c, .slice q k d] 49)).cell? ⟨w4.heap.size, 1, none⟩ = some (.slice p l c) := by simp [go_sem]
  have t4 : (w4.alloc (.cells #[.bool s, .slice p l c, .slice q k d] 49)).cell? ⟨w4.heap.size, 2, none⟩ = some (.slice q k d) := by simp [go_sem]
  have hpm : RP 0 (w4.alloc (.cells #[.bool s, .slice p l c, .slice q k d] 49)) s p l c q k d N3 M3 := (hp.mono (Nat.zero_le _)).kp ((Kp.refl w4).alloc _)
  have kM : Kp w (w4.alloc (.cells #[.bool s, .slice p l c, .slice q k d] 49)) := Kp.trans (Kp.trans kz k24) ((Kp.refl w4).alloc _)
  clear t1
  have t1 := t1'
  clear t1'
  generalize (w4.alloc (.cells #[.bool s, .slice p l c, .slice q k d] 49)) = Wm at t0 t1 t2 t3 t4 hpm kM ⊢
  generalize w4.heap.size = Bm at t2 t3 t4 ⊢
  have td0 : Wm.drew.cell? ⟨w1.heap.size, 0, none⟩ = some (.int .u64 LO) := t0
  have td1 : Wm.drew.cell? ⟨w1.heap.size, 1, none⟩ = some (.int .u64 HI) := t1
  have td2 : Wm.drew.cell? ⟨Bm, 0, none⟩ = some (.bool s) := t2
  have td3 : Wm.drew.cell? ⟨Bm, 1, none⟩ = some (.slice p l c) := t3
  have td4 : Wm.drew.cell? ⟨Bm, 2, none⟩ = some (.slice q k d) := t4
  go_region_held3 (fun w' => w'.cell? ⟨w1.heap.size, 0, none⟩ = some (.int .u64 LO) ∧ w'.cell? ⟨w1.heap.size, 1, none⟩ = some (.int .u64 HI) ∧ w'.cell? ⟨Bm, 0, none⟩ = some (.bool s) ∧ w'.cell? ⟨Bm, 1, none⟩ = some (.slice p l c) ∧ w'.cell? ⟨Bm, 2, none⟩ = some (.slice q k d)) (first | (with_reducible exact ⟨t0, t1, t2, t3, t4⟩) | (with_reducible exact ⟨td0, td1, td2, td3, td4⟩) | (with_reducible exact ⟨c0Wm0, c0Wm1, c0Wm2, c0Wm3, c0Wm4⟩) | (with_reducible exact ⟨c1Wm0, c1Wm1, c1Wm2, c1Wm3, c1Wm4⟩) | (refine ⟨kkeep (W := Wm) ?_ t0, kkeep (W := Wm) ?_ t1, kkeep (W := Wm) ?_ t2, kkeep (W := Wm) ?_ t3, kkeep (W := Wm) ?_ t4⟩ <;> ((repeat (first | with_reducible exact Kp.refl _ | with_reducible apply Kp.drew | with_reducible apply Kp.alloc)); done)) | (refine ⟨kkeep (W := w5) ?_ c0Wm0, kkeep (W := w5) ?_ c0Wm1, kkeep (W := w5) ?_ c0Wm2, kkeep (W := w5) ?_ c0Wm3, kkeep (W := w5) ?_ c0Wm4⟩ <;> ((repeat (first | with_reducible exact Kp.refl _ | with_reducible apply Kp.drew | with_reducible apply Kp.alloc)); done)) | (refine ⟨kkeep (W := w6) ?_ c1Wm0, kkeep (W := w6) ?_ c1Wm1, kkeep (W := w6) ?_ c1Wm2, kkeep (W := w6) ?_ c1Wm3, kkeep (W := w6) ?_ c1Wm4⟩ <;> ((repeat (first | with_reducible exact Kp.refl _ | with_reducible apply Kp.drew | with_reducible apply Kp.alloc)); done)) | (refine ⟨?_, ?_, ?_, ?_, ?_⟩ <;> (refine (World.cell?_setCell_far _ _ _ _ ?_).trans ((World.cell?_setCell_far _ _ _ _ ?_).trans ((World.cell?_setCell_far _ _ _ _ ?_).trans ?_)) <;> first | assumption | (have h90 := cell_lt t0; have h91 := cell_lt t1; have h92 := cell_lt t2; have h93 := cell_lt t3; have h94 := cell_lt t4; have h2 := Below.size KWm0; have h3 := Below.size KWm0; first | omega | (simp <;> omega))))) (first | (go_at_call 28; refine (hf1 _).mono ?_; rintro e w5 ⟨s2, p2, l2, c2, q2, k2, d2, rfl, hp2, g5⟩; have KWm0 : Kp Wm w5 := Kp.trans (by (repeat (first | exact Kp.refl _ | apply Kp.drew | apply Kp.alloc)); done) g5; have c0Wm0 := kkeep KWm0 t0; have c0Wm1 := kkeep KWm0 t1; have c0Wm2 := kkeep KWm0 t2; have c0Wm3 := kkeep KWm0 t3; have c0Wm4 := kkeep KWm0 t4) | (go_at_call 29; refine (vsub_ N3 N1 M3 M1 s p l c q k d s2 p2 l2 c2 q2 k2 d2 0 _ _ ((hpm.kp (Kp.trans (by (repeat (first | exact Kp.refl _ | apply Kp.drew | apply Kp.alloc)); done) g5)).kp (by (repeat (first | exact Kp.refl _ | apply Kp.drew | apply Kp.alloc)); done)) (hp2.kp (by (repeat (first | exact Kp.refl _ | apply Kp.drew | apply Kp.alloc)); done))).mono ?_; rintro e w6 ⟨s3, p3, l3, c3, q3, k3, d3, rfl, hq, g6⟩; have KWm1 : Kp Wm w6 := Kp.trans (Kp.trans KWm0 (by (repeat (first | exact Kp.refl _ | apply Kp.drew | apply Kp.alloc)); done)) g6; have c1Wm0 := kkeep KWm1 t0; have c1Wm1 := kkeep KWm1 t1; have c1Wm2 := kkeep KWm1 t2; have c1Wm3 := kkeep KWm1 t3; have c1Wm4 := kkeep KWm1 t4; first | (have m00 : (Wm.drew.alloc (.cells #[.bool false, .slice none 0 0, .slice none 0 0] 49)).cell? ⟨Wm.heap.size, 0, none⟩ = some (.bool false) := (by simp [go_sem]); have f00 : (Wm.drew.alloc (.cells #[.bool false, .slice none 0 0, .slice none 0 0] 49)).frozen? ⟨Wm.heap.size, 0, none⟩ = false := (by simp [go_sem]); have m01 : (Wm.drew.alloc (.cells #[.bool false, .slice none 0 0, .slice none 0 0] 49)).cell? ⟨Wm.heap.size, 1, none⟩ = some (.slice none 0 0) := (by simp [go_sem]); have f01 : (Wm.drew.alloc (.cells #[.bool false, .slice none 0 0, .slice none 0 0] 49)).frozen? ⟨Wm.heap.size, 1, none⟩ = false := (by simp [go_sem]); have m02 : (Wm.drew.alloc (.cells #[.bool false, .slice none 0 0, .slice none 0 0] 49)).cell? ⟨Wm.heap.size, 2, none⟩ = some (.slice none 0 0) := (by simp [go_sem]); have f02 : (Wm.drew.alloc (.cells #[.bool false, .slice none 0 0, .slice none 0 0] 49)).frozen? ⟨Wm.heap.size, 2, none⟩ = false := (by simp [go_sem]); have m10 := kkeep g5 m00; have f10 : w5.frozen? ⟨Wm.heap.size, 0, none⟩ = false := (kfro g5 (cell_lt m00)).trans f00; have m11 := kkeep g5 m01; have f11 : w5.frozen? ⟨Wm.heap.size, 1, none⟩ = false := (kfro g5 (cell_lt m01)).trans f01; have m12 := kkeep g5 m02; have f12 : w5.frozen? ⟨Wm.heap.size, 2, none⟩ = false := (kfro g5 (cell_lt m02)).trans f02; have m20 := kkeep g6 m10; have f20 : w6.frozen? ⟨Wm.heap.size, 0, none⟩ = false := (kfro g6 (cell_lt m10)).trans f10; have m21 := kkeep g6 m11; have f21 : w6.frozen? ⟨Wm.heap.size, 1, none⟩ = false := (kfro g6 (cell_lt m11)).trans f11; have m22 := kkeep g6 m12; have f22 : w6.frozen? ⟨Wm.heap.size, 2, none⟩ = false := (kfro g6 (cell_lt m12)).trans f12; have HS := (((hq.set (x := ⟨Wm.heap.size, 0, none⟩) (cell_lt m10) (.bool s3)).set (x := ⟨Wm.heap.size, 1, none⟩) (cell_lt m10) (.slice p3 l3 c3)).set (x := ⟨Wm.heap.size, 2, none⟩) (cell_lt m10) (.slice q3 k3 d3))) | (have m00 : (w5.alloc (.cells #[.bool false, .slice none 0 0, .slice none 0 0] 49)).cell? ⟨w5.heap.size, 0, none⟩ = some (.bool false) := (by simp [go_sem]); have f00 : (w5.alloc (.cells #[.bool false, .slice none 0 0, .slice none 0 0] 49)).frozen? ⟨w5.heap.size, 0, none⟩ = false := (by simp [go_sem]); have m01 : (w5.alloc (.cells #[.bool false, .slice none 0 0, .slice none 0 0] 49)).cell? ⟨w5.heap.size, 1, none⟩ = some (.slice none 0 0) := (by simp [go_sem]); have f01 : (w5.alloc (.cells #[.bool false, .slice none 0 0, .slice none 0 0] 49)).frozen? ⟨w5.heap.size, 1, none⟩ = false := (by simp [go_sem]); have m02 : (w5.alloc (.cells #[.bool false, .slice none 0 0, .slice none 0 0] 49)).cell? ⟨w5.heap.size, 2, none⟩ = some (.slice none 0 0) := (by simp [go_sem]); have f02 : (w5.alloc (.cells #[.bool false, .slice none 0 0, .slice none 0 0] 49)).frozen? ⟨w5.heap.size, 2, none⟩ = false := (by simp [go_sem]); have m10 := kkeep g6 m00; have f10 : w6.frozen? ⟨w5.heap.size, 0, none⟩ = false := (kfro g6 (cell_lt m00)).trans f00; have m11 := kkeep g6 m01; have f11 : w6.frozen? ⟨w5.heap.size, 1, none⟩ = false := (kfro g6 (cell_lt m01)).trans f01; have m12 := kkeep g6 m02; have f12 : w6.frozen? ⟨w5.heap.size, 2, none⟩ = false := (kfro g6 (cell_lt m02)).trans f02; have HS := (((hq.set (x := ⟨w5.heap.size, 0, none⟩) (cell_lt m00) (.bool s3)).set (x := ⟨w5.heap.size, 1, none⟩) (cell_lt m00) (.slice p3 l3 c3)).set (x := ⟨w5.heap.size, 2, none⟩) (cell_lt m00) (.slice q3 k3 d3))) | skip))
  all_goals go_wp2
  all_goals (first
    | skip
      have x0 : ((((w6).setCell ⟨Wm.heap.size, 0, none⟩ (.bool s3)).setCell ⟨Wm.heap.size, 1, none⟩ (.slice p3 l3 c3)).setCell ⟨Wm.heap.size, 2, none⟩ (.slice q3 k3 d3)).cell? ⟨Wm.heap.size, 0, none⟩ = some (.bool s3) := by simp [go_sem, m20, m21, m22, f20, f21, f22]
      have x1 : ((((w6).setCell ⟨Wm.heap.size, 0, none⟩ (.bool s3)).setCell ⟨Wm.heap.size, 1, none⟩ (.slice p3 l3 c3)).setCell ⟨Wm.heap.size, 2, none⟩ (.slice q3 k3 d3)).cell? ⟨Wm.heap.size, 1, none⟩ = some (.slice p3 l3 c3) := by simp [go_sem, m20, m21, m22, f20, f21, f22]
      have x2 : ((((w6).setCell ⟨Wm.heap.size, 0, none⟩ (.bool s3)).setCell ⟨Wm.heap.size, 1, none⟩ (.slice p3 l3 c3)).setCell ⟨Wm.heap.size, 2, none⟩ (.slice q3 k3 d3)).cell? ⟨Wm.heap.size, 2, none⟩ = some (.slice q3 k3 d3) := by simp [go_sem, m20, m21, m22, f20, f21, f22]
      have hvL := HS
      have kL : Kp w ((((w6).setCell ⟨Wm.heap.size, 0, none⟩ (.bool s3)).setCell ⟨Wm.heap.size, 1, none⟩ (.slice p3 l3 c3)).setCell ⟨Wm.heap.size, 2, none⟩ (.slice q3 k3 d3)) := ((((Kp.trans kM KWm1)).setCell (by exact Below.size kM) _).setCell (by exact Below.size kM) _).setCell (by exact Below.size kM) _
      have KZ9 : Kp Wm ((((w6).setCell ⟨Wm.heap.size, 0, none⟩ (.bool s3)).setCell ⟨Wm.heap.size, 1, none⟩ (.slice p3 l3 c3)).setCell ⟨Wm.heap.size, 2, none⟩ (.slice q3 k3 d3)) := (((KWm1).setCell (by first | omega | (simp <;> omega)) _).setCell (by first | omega | (simp <;> omega)) _).setCell (by first | omega | (simp <;> omega)) _
      generalize ((((w6).setCell ⟨Wm.heap.size, 0, none⟩ (.bool s3)).setCell ⟨Wm.heap.size, 1, none⟩ (.slice p3 l3 c3)).setCell ⟨Wm.heap.size, 2, none⟩ (.slice q3 k3 d3)) = WL at x0 x1 x2 hvL kL KZ9 ⊢
      generalize Wm.heap.size = BL at x0 x1 x2 ⊢
    | skip
      have x0 : ((((w6).setCell ⟨w5.heap.size, 0, none⟩ (.bool s3)).setCell ⟨w5.heap.size, 1, none⟩ (.slice p3 l3 c3)).setCell ⟨w5.heap.size, 2, none⟩ (.slice q3 k3 d3)).cell? ⟨w5.heap.size, 0, none⟩ = some (.bool s3) := by simp [go_sem, m10, m11, m12, f10, f11, f12]
      have x1 : ((((w6).setCell ⟨w5.heap.size, 0, none⟩ (.bool s3)).setCell ⟨w5.heap.size, 1, none⟩ (.slice p3 l3 c3)).setCell ⟨w5.heap.size, 2, none⟩ (.slice q3 k3 d3)).cell? ⟨w5.heap.size, 1, none⟩ = some (.slice p3 l3 c3) := by simp [go_sem, m10, m11, m12, f10, f11, f12]
      have x2 : ((((w6).setCell ⟨w5.heap.size, 0, none⟩ (.bool s3)).setCell ⟨w5.heap.size, 1, none⟩ (.slice p3 l3 c3)).setCell ⟨w5.heap.size, 2, none⟩ (.slice q3 k3 d3)).cell? ⟨w5.heap.size, 2, none⟩ = some (.slice q3 k3 d3) := by simp [go_sem, m10, m11, m12, f10, f11, f12]
      have hvL := HS
      have kL : Kp w ((((w6).setCell ⟨w5.heap.size, 0, none⟩ (.bool s3)).setCell ⟨w5.heap.size, 1, none⟩ (.slice p3 l3 c3)).setCell ⟨w5.heap.size, 2, none⟩ (.slice q3 k3 d3)) := ((((Kp.trans kM KWm1)).setCell (by have h1 := Below.size kM; have h2 := Below.size KWm0; first | omega | (simp <;> omega)) _).setCell (by have h1 := Below.size kM; have h2 := Below.size KWm0; first | omega | (simp <;> omega)) _).setCell (by have h1 := Below.size kM; have h2 := Below.size KWm0; first | omega | (simp <;> omega)) _
      have KZ9 : Kp Wm ((((w6).setCell ⟨w5.heap.size, 0, none⟩ (.bool s3)).setCell ⟨w5.heap.size, 1, none⟩ (.slice p3 l3 c3)).setCell ⟨w5.heap.size, 2, none⟩ (.slice q3 k3 d3)) := (((KWm1).setCell (by have h2 := Below.size KWm0; first | omega | (simp <;> omega)) _).setCell (by have h2 := Below.size KWm0; first | omega | (simp <;> omega)) _).setCell (by have h2 := Below.size KWm0; first | omega | (simp <;> omega)) _
      generalize ((((w6).setCell ⟨w5.heap.size, 0, none⟩ (.bool s3)).setCell ⟨w5.heap.size, 1, none⟩ (.slice p3 l3 c3)).setCell ⟨w5.heap.size, 2, none⟩ (.slice q3 k3 d3)) = WL at x0 x1 x2 hvL kL KZ9 ⊢
      generalize w5.heap.size = BL at x0 x1 x2 ⊢
    | skip
      have x0 : (w6.alloc (.cells #[.bool s3, .slice p3 l3 c3, .slice q3 k3 d3] 49)).cell? ⟨w6.heap.size, 0, none⟩ = some (.bool s3) := by simp [go_sem]
      have x1 : (w6.alloc (.cells #[.bool s3, .slice p3 l3 c3, .slice q3 k3 d3] 49)).cell? ⟨w6.heap.size, 1, none⟩ = some (.slice p3 l3 c3) := by simp [go_sem]
      have x2 : (w6.alloc (.cells #[.bool s3, .slice p3 l3 c3, .slice q3 k3 d3] 49)).cell? ⟨w6.heap.size, 2, none⟩ = some (.slice q3 k3 d3) := by simp [go_sem]
      have hvL := hq.kp ((Kp.refl w6).alloc (.cells #[.bool s3, .slice p3 l3 c3, .slice q3 k3 d3] 49))
      have kL : Kp w (w6.alloc (.cells #[.bool s3, .slice p3 l3 c3, .slice q3 k3 d3] 49)) := Kp.trans (Kp.trans kM KWm1) ((Kp.refl w6).alloc _)
      have KZ9 : Kp Wm (w6.alloc (.cells #[.bool s3, .slice p3 l3 c3, .slice q3 k3 d3] 49)) := Kp.trans KWm1 ((Kp.refl w6).alloc _)
      generalize ((w6.alloc (.cells #[.bool s3, .slice p3 l3 c3, .slice q3 k3 d3] 49))) = WL at x0 x1 x2 hvL kL KZ9 ⊢
      generalize w6.heap.size = BL at x0 x1 x2 ⊢)
  all_goals (
  have o0 := kkeep KZ9 t0
  have o1 := kkeep KZ9 t1
  have o2 := kkeep KZ9 t2
  have o3 := kkeep KZ9 t3
  have o4 := kkeep KZ9 t4
  have hpL := hpm.kp KZ9
  clear KZ9
  have od0 : WL.drew.cell? ⟨w1.heap.size, 0, none⟩ = some (.int .u64 LO) := o0
  have od1 : WL.drew.cell? ⟨w1.heap.size, 1, none⟩ = some (.int .u64 HI) := o1
  have od2 : WL.drew.cell? ⟨Bm, 0, none⟩ = some (.bool s) := o2
  have od3 : WL.drew.cell? ⟨Bm, 1, none⟩ = some (.slice p l c) := o3
  have od4 : WL.drew.cell? ⟨Bm, 2, none⟩ = some (.slice q k d) := o4
  go_region_held3 (fun w' => w'.cell? ⟨w1.heap.size, 0, none⟩ = some (.int .u64 LO) ∧ w'.cell? ⟨w1.heap.size, 1, none⟩ = some (.int .u64 HI) ∧ w'.cell? ⟨Bm, 0, none⟩ = some (.bool s) ∧ w'.cell? ⟨Bm, 1, none⟩ = some (.slice p l c) ∧ w'.cell? ⟨Bm, 2, none⟩ = some (.slice q k d)) (first | (with_reducible exact ⟨o0, o1, o2, o3, o4⟩) | (with_reducible exact ⟨od0, od1, od2, od3, od4⟩) | (with_reducible exact ⟨c0WL0, c0WL1, c0WL2, c0WL3, c0WL4⟩) | (with_reducible exact ⟨c1WL0, c1WL1, c1WL2, c1WL3, c1WL4⟩) | (refine ⟨kkeep (W := WL) ?_ o0, kkeep (W := WL) ?_ o1, kkeep (W := WL) ?_ o2, kkeep (W := WL) ?_ o3, kkeep (W := WL) ?_ o4⟩ <;> ((repeat (first | with_reducible exact Kp.refl _ | with_reducible apply Kp.drew | with_reducible apply Kp.alloc)); done)) | (refine ⟨kkeep (W := w7) ?_ c0WL0, kkeep (W := w7) ?_ c0WL1, kkeep (W := w7) ?_ c0WL2, kkeep (W := w7) ?_ c0WL3, kkeep (W := w7) ?_ c0WL4⟩ <;> ((repeat (first | with_reducible exact Kp.refl _ | with_reducible apply Kp.drew | with_reducible apply Kp.alloc)); done)) | (refine ⟨kkeep (W := w8) ?_ c1WL0, kkeep (W := w8) ?_ c1WL1, kkeep (W := w8) ?_ c1WL2, kkeep (W := w8) ?_ c1WL3, kkeep (W := w8) ?_ c1WL4⟩ <;> ((repeat (first | with_reducible exact Kp.refl _ | with_reducible apply Kp.drew | with_reducible apply Kp.alloc)); done)) | (refine ⟨?_, ?_, ?_, ?_, ?_⟩ <;> (refine (World.cell?_setCell_far _ _ _ _ ?_).trans ((World.cell?_setCell_far _ _ _ _ ?_).trans ((World.cell?_setCell_far _ _ _ _ ?_).trans ?_)) <;> first | assumption | (have h90 := cell_lt o0; have h91 := cell_lt o1; have h92 := cell_lt o2; have h93 := cell_lt o3; have h94 := cell_lt o4; have h2 := Below.size KWL0; have h3 := Below.size KWL0; first | omega | (simp <;> omega))))) (first | (go_at_call 28; refine (hf2 _).mono ?_; rintro e w7 ⟨s5, p5, l5, c5, q5, k5, d5, rfl, hp5, g7⟩; have KWL0 : Kp WL w7 := Kp.trans (by (repeat (first | exact Kp.refl _ | apply Kp.drew | apply Kp.alloc)); done) g7; have c0WL0 := kkeep KWL0 o0; have c0WL1 := kkeep KWL0 o1; have c0WL2 := kkeep KWL0 o2; have c0WL3 := kkeep KWL0 o3; have c0WL4 := kkeep KWL0 o4) | (go_at_call 29; refine (vsub_ N2 N3 M2 M3 s5 p5 l5 c5 q5 k5 d5 s p l c q k d _ 0 _ ((hp5.kp (by (repeat (first | exact Kp.refl _ | apply Kp.drew | apply Kp.alloc)); done))) ((hpL.kp (Kp.trans (by (repeat (first | exact Kp.refl _ | apply Kp.drew | apply Kp.alloc)); done) g7)).kp (by (repeat (first | exact Kp.refl _ | apply Kp.drew | apply Kp.alloc)); done))).mono ?_; rintro e w8 ⟨s6, p6, l6, c6, q6, k6, d6, rfl, hq6, g8⟩; have KWL1 : Kp WL w8 := Kp.trans (Kp.trans KWL0 (by (repeat (first | exact Kp.refl _ | apply Kp.drew | apply Kp.alloc)); done)) g8; have c1WL0 := kkeep KWL1 o0; have c1WL1 := kkeep KWL1 o1; have c1WL2 := kkeep KWL1 o2; have c1WL3 := kkeep KWL1 o3; have c1WL4 := kkeep KWL1 o4; first | (have m00 : (WL.drew.alloc (.cells #[.bool false, .slice none 0 0, .slice none 0 0] 49)).cell? ⟨WL.heap.size, 0, none⟩ = some (.bool false) := (by simp [go_sem]); have f00 : (WL.drew.alloc (.cells #[.bool false, .slice none 0 0, .slice none 0 0] 49)).frozen? ⟨WL.heap.size, 0, none⟩ = false := (by simp [go_sem]); have m01 : (WL.drew.alloc (.cells #[.bool false, .slice none 0 0, .slice none 0 0] 49)).cell? ⟨WL.heap.size, 1, none⟩ = some (.slice none 0 0) := (by simp [go_sem]); have f01 : (WL.drew.alloc (.cells #[.bool false, .slice none 0 0, .slice none 0 0] 49)).frozen? ⟨WL.heap.size, 1, none⟩ = false := (by simp [go_sem]); have m02 : (WL.drew.alloc (.cells #[.bool false, .slice none 0 0, .slice none 0 0] 49)).cell? ⟨WL.heap.size, 2, none⟩ = some (.slice none 0 0) := (by simp [go_sem]); have f02 : (WL.drew.alloc (.cells #[.bool false, .slice none 0 0, .slice none 0 0] 49)).frozen? ⟨WL.heap.size, 2, none⟩ = false := (by simp [go_sem]); have m10 := kkeep g7 m00; have f10 : w7.frozen? ⟨WL.heap.size, 0, none⟩ = false := (kfro g7 (cell_lt m00)).trans f00; have m11 := kkeep g7 m01; have f11 : w7.frozen? ⟨WL.heap.size, 1, none⟩ = false := (kfro g7 (cell_lt m01)).trans f01; have m12 := kkeep g7 m02; have f12 : w7.frozen? ⟨WL.heap.size, 2, none⟩ = false := (kfro g7 (cell_lt m02)).trans f02; have m20 := kkeep g8 m10; have f20 : w8.frozen? ⟨WL.heap.size, 0, none⟩ = false := (kfro g8 (cell_lt m10)).trans f10; have m21 := kkeep g8 m11; have f21 : w8.frozen? ⟨WL.heap.size, 1, none⟩ = false := (kfro g8 (cell_lt m11)).trans f11; have m22 := kkeep g8 m12; have f22 : w8.frozen? ⟨WL.heap.size, 2, none⟩ = false := (kfro g8 (cell_lt m12)).trans f12; have HS := (((hq6.set (x := ⟨WL.heap.size, 0, none⟩) (cell_lt m10) (.bool s6)).set (x := ⟨WL.heap.size, 1, none⟩) (cell_lt m10) (.slice p6 l6 c6)).set (x := ⟨WL.heap.size, 2, none⟩) (cell_lt m10) (.slice q6 k6 d6))) | (have m00 : (w7.alloc (.cells #[.bool false, .slice none 0 0, .slice none 0 0] 49)).cell? ⟨w7.heap.size, 0, none⟩ = some (.bool false) := (by simp [go_sem]); have f00 : (w7.alloc (.cells #[.bool false, .slice none 0 0, .slice none 0 0] 49)).frozen? ⟨w7.heap.size, 0, none⟩ = false := (by simp [go_sem]); have m01 : (w7.alloc (.cells #[.bool false, .slice none 0 0, .slice none 0 0] 49)).cell? ⟨w7.heap.size, 1, none⟩ = some (.slice none 0 0) := (by simp [go_sem]); have f01 : (w7.alloc (.cells #[.bool false, .slice none 0 0, .slice none 0 0] 49)).frozen? ⟨w7.heap.size, 1, none⟩ = false := (by simp [go_sem]); have m02 : (w7.alloc (.cells #[.bool false, .slice none 0 0, .slice none 0 0] 49)).cell? ⟨w7.heap.size, 2, none⟩ = some (.slice none 0 0) := (by simp [go_sem]); have f02 : (w7.alloc (.cells #[.bool false, .slice none 0 0, .slice none 0 0] 49)).frozen? ⟨w7.heap.size, 2, none⟩ = false := (by simp [go_sem]); have m10 := kkeep g8 m00; have f10 : w8.frozen? ⟨w7.heap.size, 0, none⟩ = false := (kfro g8 (cell_lt m00)).trans f00; have m11 := kkeep g8 m01; have f11 : w8.frozen? ⟨w7.heap.size, 1, none⟩ = false := (kfro g8 (cell_lt m01)).trans f01; have m12 := kkeep g8 m02; have f12 : w8.frozen? ⟨w7.heap.size, 2, none⟩ = false := (kfro g8 (cell_lt m02)).trans f02; have HS := (((hq6.set (x := ⟨w7.heap.size, 0, none⟩) (cell_lt m00) (.bool s6)).set (x := ⟨w7.heap.size, 1, none⟩) (cell_lt m00) (.slice p6 l6 c6)).set (x := ⟨w7.heap.size, 2, none⟩) (cell_lt m00) (.slice q6 k6 d6))) | skip))
  all_goals (first
    | skip
      have v0 : ((((w8).setCell ⟨WL.heap.size, 0, none⟩ (.bool s6)).setCell ⟨WL.heap.size, 1, none⟩ (.slice p6 l6 c6)).setCell ⟨WL.heap.size, 2, none⟩ (.slice q6 k6 d6)).cell? ⟨WL.heap.size, 0, none⟩ = some (.bool s6) := by simp [go_sem, m20, m21, m22, f20, f21, f22]
      have v1 : ((((w8).setCell ⟨WL.heap.size, 0, none⟩ (.bool s6)).setCell ⟨WL.heap.size, 1, none⟩ (.slice p6 l6 c6)).setCell ⟨WL.heap.size, 2, none⟩ (.slice q6 k6 d6)).cell? ⟨WL.heap.size, 1, none⟩ = some (.slice p6 l6 c6) := by simp [go_sem, m20, m21, m22, f20, f21, f22]
      have v2 : ((((w8).setCell ⟨WL.heap.size, 0, none⟩ (.bool s6)).setCell ⟨WL.heap.size, 1, none⟩ (.slice p6 l6 c6)).setCell ⟨WL.heap.size, 2, none⟩ (.slice q6 k6 d6)).cell? ⟨WL.heap.size, 2, none⟩ = some (.slice q6 k6 d6) := by simp [go_sem, m20, m21, m22, f20, f21, f22]
      have hvH := HS
      have kH : Kp w ((((w8).setCell ⟨WL.heap.size, 0, none⟩ (.bool s6)).setCell ⟨WL.heap.size, 1, none⟩ (.slice p6 l6 c6)).setCell ⟨WL.heap.size, 2, none⟩ (.slice q6 k6 d6)) := ((((Kp.trans kL KWL1)).setCell (by exact Below.size kL) _).setCell (by exact Below.size kL) _).setCell (by exact Below.size kL) _
      have KZ9 : Kp WL ((((w8).setCell ⟨WL.heap.size, 0, none⟩ (.bool s6)).setCell ⟨WL.heap.size, 1, none⟩ (.slice p6 l6 c6)).setCell ⟨WL.heap.size, 2, none⟩ (.slice q6 k6 d6)) := (((KWL1).setCell (by first | omega | (simp <;> omega)) _).setCell (by first | omega | (simp <;> omega)) _).setCell (by first | omega | (simp <;> omega)) _
      generalize ((((w8).setCell ⟨WL.heap.size, 0, none⟩ (.bool s6)).setCell ⟨WL.heap.size, 1, none⟩ (.slice p6 l6 c6)).setCell ⟨WL.heap.size, 2, none⟩ (.slice q6 k6 d6)) = WH at v0 v1 v2 hvH kH KZ9 ⊢
      generalize WL.heap.size = BH at v0 v1 v2 ⊢
    | skip
      have v0 : ((((w8).setCell ⟨w7.heap.size, 0, none⟩ (.bool s6)).setCell ⟨w7.heap.size, 1, none⟩ (.slice p6 l6 c6)).setCell ⟨w7.heap.size, 2, none⟩ (.slice q6 k6 d6)).cell? ⟨w7.heap.size, 0, none⟩ = some (.bool s6) := by simp [go_sem, m10, m11, m12, f10, f11, f12]
      have v1 : ((((w8).setCell ⟨w7.heap.size, 0, none⟩ (.bool s6)).setCell ⟨w7.heap.size, 1, none⟩ (.slice p6 l6 c6)).setCell ⟨w7.heap.size, 2, none⟩ (.slice q6 k6 d6)).cell? ⟨w7.heap.size, 1, none⟩ = some (.slice p6 l6 c6) := by simp [go_sem, m10, m11, m12, f10, f11, f12]
      have v2 : ((((w8).setCell ⟨w7.heap.size, 0, none⟩ (.bool s6)).setCell ⟨w7.heap.size, 1, none⟩ (.slice p6 l6 c6)).setCell ⟨w7.heap.size, 2, none⟩ (.slice q6 k6 d6)).cell? ⟨w7.heap.size, 2, none⟩ = some (.slice q6 k6 d6) := by simp [go_sem, m10, m11, m12, f10, f11, f12]
      have hvH := HS
      have kH : Kp w ((((w8).setCell ⟨w7.heap.size, 0, none⟩ (.bool s6)).setCell ⟨w7.heap.size, 1, none⟩ (.slice p6 l6 c6)).setCell ⟨w7.heap.size, 2, none⟩ (.slice q6 k6 d6)) := ((((Kp.trans kL KWL1)).setCell (by have h1 := Below.size kL; have h2 := Below.size KWL0; first | omega | (simp <;> omega)) _).setCell (by have h1 := Below.size kL; have h2 := Below.size KWL0; first | omega | (simp <;> omega)) _).setCell (by have h1 := Below.size kL; have h2 := Below.size KWL0; first | omega | (simp <;> omega)) _
      have KZ9 : Kp WL ((((w8).setCell ⟨w7.heap.size, 0, none⟩ (.bool s6)).setCell ⟨w7.heap.size, 1, none⟩ (.slice p6 l6 c6)).setCell ⟨w7.heap.size, 2, none⟩ (.slice q6 k6 d6)) := (((KWL1).setCell (by have h2 := Below.size KWL0; first | omega | (simp <;> omega)) _).setCell (by have h2 := Below.size KWL0; first | omega | (simp <;> omega)) _).setCell (by have h2 := Below.size KWL0; first | omega | (simp <;> omega)) _
      generalize ((((w8).setCell ⟨w7.heap.size, 0, none⟩ (.bool s6)).setCell ⟨w7.heap.size, 1, none⟩ (.slice p6 l6 c6)).setCell ⟨w7.heap.size, 2, none⟩ (.slice q6 k6 d6)) = WH at v0 v1 v2 hvH kH KZ9 ⊢
      generalize w7.heap.size = BH at v0 v1 v2 ⊢
    | skip
      have v0 : (w8.alloc (.cells #[.bool s6, .slice p6 l6 c6, .slice q6 k6 d6] 49)).cell? ⟨w8.heap.size, 0, none⟩ = some (.bool s6) := by simp [go_sem]
      have v1 : (w8.alloc (.cells #[.bool s6, .slice p6 l6 c6, .slice q6 k6 d6] 49)).cell? ⟨w8.heap.size, 1, none⟩ = some (.slice p6 l6 c6) := by simp [go_sem]
      have v2 : (w8.alloc (.cells #[.bool s6, .slice p6 l6 c6, .slice q6 k6 d6] 49)).cell? ⟨w8.heap.size, 2, none⟩ = some (.slice q6 k6 d6) := by simp [go_sem]
      have hvH := hq6.kp ((Kp.refl w8).alloc (.cells #[.bool s6, .slice p6 l6 c6, .slice q6 k6 d6] 49))
      have kH : Kp w (w8.alloc (.cells #[.bool s6, .slice p6 l6 c6, .slice q6 k6 d6] 49)) := Kp.trans (Kp.trans kL KWL1) ((Kp.refl w8).alloc _)
      have KZ9 : Kp WL (w8.alloc (.cells #[.bool s6, .slice p6 l6 c6, .slice q6 k6 d6] 49)) := Kp.trans KWL1 ((Kp.refl w8).alloc _)
      generalize ((w8.alloc (.cells #[.bool s6, .slice p6 l6 c6, .slice q6 k6 d6] 49))) = WH at v0 v1 v2 hvH kH KZ9 ⊢
      generalize w8.heap.size = BH at v0 v1 v2 ⊢)
  all_goals (
  have x5 := kkeep KZ9 x0
  have x6 := kkeep KZ9 x1
  have x7 := kkeep KZ9 x2
  go_wp2_with (first | (go_at_call 31; refine (rgreater8_ _ _ s3 p3 l3 c3 q3 k3 d3 s6 p6 l6 c6 q6 k6 d6 _ _ _ (hvL.kp KZ9) hvH).mono ?_; rintro e w9 ⟨s4, p4, l4, c4, q4, k4, d4, B4, rfl, hv9, g9⟩; rw [hR.out] at hv9; have k9 : Kp w w9 := Kp.trans kH g9) | (go_at_call 30; refine (vbits_ s4 p4 l4 c4 q4 k4 d4 _ 1 _ _ hv9).mono ?_; rintro e wX ⟨rfl, gX⟩; have kX : Kp w wX := Kp.trans k9 gX))
  exact bodyPost_ret (v := .int .u64 ((sumW 1 R9 : Nat) : Int)) (by simp [results, Tryz.results10, go_sem]) rfl ⟨rfl, kX⟩))

theorem apW_up (n g : Bool) (m r : Nat) (hm : m < 9218868437227405312) (hr : r < 9218868437227405312) (h : Iv n m ≤ Iv g r) : apW n m g r = sumW 1 (Iv g r - Iv n m) := by
  have q1 := iv_lt8 n g m r
  have q2 := iv_lt8 g n r m
  unfold apW
  by_cases c2 : Fq.plz n m = Fq.plz g r
  · rw [if_pos c2]
    have : Iv g r - Iv n m = 0 := by omega
    rw [this]
    rfl
  · rw [if_neg c2, if_neg (by omega), if_pos (by omega)]
theorem rad_both (a b : Nat) (ha : a < 18446744073709551616) (hb : b < 18446744073709551616) : ∃ (s : Bool) (x Z : Nat), (∀ w : World, Tab w → Fq.Tab w → Calls Tryz.prog 6 #[.agg #[.float .f64 a, .float .f64 b]] w fun e w' => e = .returned (.tuple #[.float .f64 (Fq.wD s x), .float .f64 Z]) ∧ Kp w w') ∧ (∀ w : World, Tab w → Fq.Tab w → Calls Tryz.prog 9 #[.agg #[.float .f64 a, .float .f64 b]] w fun e w' => e = .returned (.float .f64 Z) ∧ Kp w w') ∧ (∀ w : World, Calls Tryz.prog 11 #[.agg #[.int .u64 ((a : Nat) : Int), .int .u64 ((b : Nat) : Int)]] w fun e w' => e = .returned (.int .u64 ((Fq.wD s x : Nat) : Int)) ∧ Kp w w') ∧ (∀ w : World, Calls Tryz.prog 10 #[.agg #[.int .u64 ((a : Nat) : Int), .int .u64 ((b : Nat) : Int)]] w fun e w' => e = .returned (.int .u64 (Z : Int)) ∧ Kp w w') ∧ (x ≤ 9218868437227405312 ∨ (s = false ∧ x = 9221120237041090561)) ∧ (Z ≤ 9218868437227405312 ∨ Z = 9221120237041090561) := by
  have hr := rread8 a b ha hb
  have hp := Fq.read_ a b ha hb
  by_cases s1 : Fq.snd a b = true
  · obtain ⟨n, m, l1, e1⟩ := rlo_w a b ha hb
    obtain ⟨g, r, l2, e2⟩ := rhi_w a b ha hb
    have t1 := lo_inf8 a b s1 n m l1 e1
    have i1 := rlo_inf a b s1 n m e1
    have i2 := rhi_inf a b s1 g r e2
    have le := le_read8 a b ha hb s1 n g m r l1 l2 e1 e2
    have hv := void8_ a b ha hb false (by simpa using s1)
    have s2 := snd_read8 a b ha hb s1
    have e3 := (rlo_read8 a b ha hb s1).trans e1
    have e4 := (rhi_read8 a b ha hb s1).trans e2
    have hm2 := midS8_ (Fq.rlo a b) (Fq.rhi a b) (Fq.rlo_lt a b ha) (Fq.rhi_lt a b hb) s2 n g m r l1 l2 e3 e4
    have hm3 := rmidS8_ a b ha hb s1 n g m r l1 l2 e1 e2
    have hm4 := rmidS8_ (Fq.rlo a b) (Fq.rhi a b) (Fq.rlo_lt a b ha) (Fq.rhi_lt a b hb) s2 n g m r l1 l2 e3 e4
    have hw := wild8_ n g m r l1 l2
    rw [e1, e2] at hr hp hv hm2 hm4
    have fin : ∃ s x, x < 9218868437227405312 ∧ mdP n m g r = Fq.wD s x ∧ (¬ (m = 9218868437227405312 ∨ r = 9218868437227405312) → Iv n m ≤ Iv s x ∧ Iv s x ≤ Iv g r) := by
      unfold mdP
      by_cases c1 : m = 9218868437227405312
      · rw [if_pos c1]
        by_cases c2 : r = 9218868437227405312
        · rw [if_pos c2]; exact ⟨false, 0, by decide, rfl, fun h => absurd (Or.inl c1) h⟩
        · rw [if_neg c2]; exact ⟨true, 9218868437227405311, by decide, rfl, fun h => absurd (Or.inl c1) h⟩
      · rw [if_neg c1]
        by_cases c2 : r = 9218868437227405312
        · rw [if_pos c2]; exact ⟨false, 9218868437227405311, by decide, rfl, fun h => absurd (Or.inr c2) h⟩
        · rw [if_neg c2]
          have hle : Iv n m ≤ Iv g r := by have := iv_lt8 g n r m; omega
          obtain ⟨s, x, lx, ex, -, h1, h2⟩ := mid_in n g m r (by omega) (by omega) hle
          exact ⟨s, x, lx, ex, fun _ => ⟨h1, h2⟩⟩
    obtain ⟨s, x, lx, ex, hin⟩ := fin
    rw [ex] at hm2 hm3 hm4
    have u1 := apW_le n s m x
    have u2 := apW_le s g x r
    have hMR : ∀ w : World, Tab w → Fq.Tab w → Calls Tryz.prog 6 #[.agg #[.float .f64 a, .float .f64 b]] w fun e w' => e = .returned (.tuple #[.float .f64 (Fq.wD s x), .float .f64 (if apW s x g r < apW n m s x then apW n m s x else apW s x g r)]) ∧ Kp w w' := fun w hT hQ => mradS_ a b _ _ _ hp hm2 hv _ _ _ w (fun W y => apart8_ n s m x l1 (by omega) W (Tab.grown hT y) (Fq.Tab.grown hQ y)) (fun W y => apart8_ s g x r (by omega) l2 W (Tab.grown hT y) (Fq.Tab.grown hQ y)) (greater8_ _ _ u1 u2)
    refine ⟨s, x, _, hMR, fun w hT hQ => radP_ a b _ _ w (fun W y => hMR W (Tab.grown hT y) (Fq.Tab.grown hQ y)), hm3, fun w => ?_, Or.inl (by omega), Or.inl (by split <;> omega)⟩
    by_cases c : m = 9218868437227405312 ∨ r = 9218868437227405312
    · rw [decide_eq_true c] at hw
      have h := rradI_ _ _ _ _ hr t1 hw w
      have P1 : Fq.plz n m = if n then -(m : Int) else m := by unfold Fq.plz; cases n <;> rfl
      have P2 : Fq.plz g r = if g then -(r : Int) else r := by unfold Fq.plz; cases g <;> rfl
      have P3 : Fq.plz s x = if s then -(x : Int) else x := by unfold Fq.plz; cases s <;> rfl
      have ea : (if apW s x g r < apW n m s x then apW n m s x else apW s x g r) = 9218868437227405312 := by
        rcases c with c | c
        · have : apW n m s x = 9218868437227405312 := by
            unfold apW
            rw [if_neg (by rw [P1, P3, i1 c, c]; cases s <;> simp <;> omega), if_pos (Or.inl c)]
          rw [this]
          split <;> omega
        · have : apW s x g r = 9218868437227405312 := by
            unfold apW
            rw [if_neg (by rw [P2, P3, i2 c, c]; cases s <;> simp <;> omega), if_pos (Or.inr c)]
          rw [this]
          split <;> omega
      rw [ea]
      exact h
    · rw [decide_eq_false c] at hw
      obtain ⟨h1, h2⟩ := hin c
      obtain ⟨R9, hR9⟩ : ∃ R9, (if Iv s x - Iv n m < Iv g r - Iv s x then Iv g r - Iv s x else Iv s x - Iv n m) = R9 := ⟨_, rfl⟩
      have h := rradF_ _ _ _ _ _ n g s m r x hr t1 hw hm4 (fromR_ n m (by omega)) (fromR_ g r (by omega)) (fromR_ s x (by omega)) R9 hR9 w
      have ea : (if apW s x g r < apW n m s x then apW n m s x else apW s x g r) = sumW 1 R9 := by
        rw [apW_up n s m x (by omega) (by omega) h1, apW_up s g x r (by omega) (by omega) h2, ← hR9]
        by_cases c3 : Iv s x - Iv n m < Iv g r - Iv s x
        · have := sumW_mono (Iv s x - Iv n m) (Iv g r - Iv s x) (by omega) (by omega)
          rw [if_pos c3, if_neg (by omega)]
        · have := sumW_mono (Iv g r - Iv s x) (Iv s x - Iv n m) (by omega) (by omega)
          rw [if_neg c3]
          split <;> omega
      rw [ea]
      exact h
  · have s1 : Fq.snd a b = false := by simpa using s1
    have q := rempty8 a b s1
    have hv := void8_ a b ha hb true (by simpa using s1)
    have s2 : Fq.snd (Fq.rlo a b) (Fq.rhi a b) = false := by rw [q.1, q.2]; decide +kernel
    have hm : ∀ w : World, Calls Tryz.prog 17 #[.agg #[.float .f64 (Fq.rlo a b), .float .f64 (Fq.rhi a b)]] w fun e w' => e = .returned (.float .f64 9221120237041090561) ∧ Kp w w' := fun w => midN_ _ _ _ _ (Fq.read_ _ _ (Fq.rlo_lt a b ha) (Fq.rhi_lt a b hb)) (void8_ _ _ (Fq.rlo_lt a b ha) (Fq.rhi_lt a b hb) true (by simpa using s2)) w
    have hMR : ∀ w : World, Tab w → Fq.Tab w → Calls Tryz.prog 6 #[.agg #[.float .f64 a, .float .f64 b]] w fun e w' => e = .returned (.tuple #[.float .f64 (Fq.wD false 9221120237041090561), .float .f64 9221120237041090561]) ∧ Kp w w' := fun w _ _ => mradN_ a b _ _ _ hp hm hv w
    rw [q.1, q.2] at hr
    exact ⟨false, 9221120237041090561, 9221120237041090561, hMR, fun w hT hQ => radP_ a b _ _ w (fun W y => hMR W (Tab.grown hT y) (Fq.Tab.grown hQ y)), fun w => rmidN_ _ _ _ _ hr (by decide) (by decide) w, fun w => rradN_ _ _ _ _ hr (by decide) (by decide) w, Or.inr ⟨rfl, rfl⟩, Or.inr rfl⟩
set_option maxRecDepth 20000 in
set_option maxHeartbeats 4000000 in
theorem mrads_ (a b : Nat) (ha : a < 18446744073709551616) (hb : b < 18446744073709551616) (w : World) (hT : Tab w) (hQ : Fq.Tab w) : Calls Tryz.prog 3 #[.agg #[.int .u64 ((a : Nat) : Int), .int .u64 ((b : Nat) : Int)]] w fun e w' => e = .returned (.bool true) ∧ Kp w w' := by
  have h1 := in8_ a b
  obtain ⟨s, x, Z, hMR, hP, hM, hR, hz, hz2⟩ := rad_both a b ha hb
  have hI := isW8_ s x hz
  have hJ := isZ8_ Z hz2
  clear ha hb hz hz2
  generalize Fq.wD s x = MW at hMR hM hI
  generalize (MW : Int) = MI9 at hM hI
  generalize (Z : Int) = ZI at hR hJ
  generalize (a : Int) = X at h1 hM hR ⊢
  generalize (b : Int) = Y at h1 hM hR ⊢
  have HT : ∀ W : World, Kp w W → Tab W ∧ Fq.Tab W := fun W y => ⟨Tab.grown hT y, Fq.Tab.grown hQ y⟩
  clear hT hQ
  go_enter Tryz.func3, Tryz.ntmps3
  go_wp2_with (first | (go_at_call 7; refine (h1 _).mono ?_; rintro e w1 ⟨rfl, g1⟩; have k1 : Kp w w1 := Kp.trans ((Kp.refl w).alloc _) g1; have x0 := kkeep g1 (b := w.heap.size) (o := 0) (v := .int .u64 X) (by simp [go_sem]); have x1 := kkeep g1 (b := w.heap.size) (o := 1) (v := .int .u64 Y) (by simp [go_sem])) | (go_at_call 6; refine (hMR _ (HT _ k1).1 (HT _ k1).2).mono ?_; rintro e w2 ⟨rfl, g2⟩; have k2 : Kp w w2 := Kp.trans k1 g2; have y0 := kkeep g2 x0; have y1 := kkeep g2 x1))
  refine Fq.wp_region_grow (by kernel_rfl) (by kernel_rfl) (fun ι _ G hG hall => ?_)
  have kT : ∀ n, Tab (G n) ∧ Fq.Tab (G n) := fun n => HT _ (Kp.trans k2 (hG n))
  have cc0 : ∀ n, (G n).cell? ⟨w.heap.size, 0, none⟩ = some (.int .u64 X) := fun n => Fq.gkeep (hG n) y0
  have cc1 : ∀ n, (G n).cell? ⟨w.heap.size, 1, none⟩ = some (.int .u64 Y) := fun n => Fq.gkeep (hG n) y1
  repeat (go_big_quiet_step (first | (go_at_call 7; exact (h1 _).mono (fun e w' h => ⟨h.1, hall _ (Fq.gtrans (hG _) h.2)⟩)) | (go_at_call 9; exact (hP _ (kT _).1 (kT _).2).mono (fun e w' h => ⟨h.1, hall _ (Fq.gtrans (hG _) h.2)⟩)) | (go_at_call 10; exact (hR _).mono (fun e w' h => ⟨h.1, hall _ (Fq.gtrans (hG _) h.2)⟩)) | (go_at_call 11; exact (hM _).mono (fun e w' h => ⟨h.1, hall _ (Fq.gtrans (hG _) h.2)⟩)) | (go_at_call_of 8 (Value.float .f64 MW); exact (hI _).mono (fun e w' h => ⟨h.1, hall _ (Fq.gtrans (hG _) h.2)⟩)) | (go_at_call_of 8 (Value.float .f64 Z); exact (hJ _).mono (fun e w' h => ⟨h.1, hall _ (Fq.gtrans (hG _) h.2)⟩))))
  refine wpQuiet_nil ?_
  rintro _ ⟨nq, rfl⟩
  have gq : Kp w (G nq) := Kp.trans k2 (hG nq)
  clear cc0 cc1 hall hG kT HT
  go_wp2
  exact bodyPost_ret (v := .bool true) (by simp [results, Tryz.results3, go_sem]) rfl ⟨rfl, gq⟩
end Go.Proofs.YtmcjjfkicpcfcaaGreatDoor
