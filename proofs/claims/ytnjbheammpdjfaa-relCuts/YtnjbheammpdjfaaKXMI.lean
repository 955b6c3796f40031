import Derived.Test.YtnjbheammpdjfaaProg
import Derived.Test.YtnjbheammpdjfaaKXA0
import Derived.Test.YtnjbheammpdjfaaKXM
import Derived.Test.YtnjbheammpdjfaaKXY
import Derived.Test.YtnjbheammpdjfaaKXQF
import Derived.Test.YtnjbheammpdjfaaKQA
import Derived.Test.YtnjbheammpdjfaaKQP
import Derived.Test.YtnjbheammpdjfaaKXQU
import Derived.Test.YtnjbheammpdjfaaKXEA
import Derived.Test.YtnjbheammpdjfaaKXEE
import Derived.Test.YtnjbheammpdjfaaKMR7Q
import Derived.Test.YtnjbheammpdjfaaKXMR
import Derived.Test.YtnjbheammpdjfaaKXM3
import Derived.Test.YtnjbheammpdjfaaKXO
import Derived.Test.YtnjbheammpdjfaaKXO3
import Derived.Test.YtnjbheammpdjfaaKXT
import Derived.Test.YtnjbheammpdjfaaKXLB
import Derived.Test.YtnjbheammpdjfaaKRX
import Derived.Test.YtnjbheammpdjfaaKXRL
import Derived.Test.YtnjbheammpdjfaaKXCO
import Derived.Test.YtnjbheammpdjfaaKLN
import Derived.Test.YtnjbheammpdjfaaKXRN
import Derived.Test.YtnjbheammpdjfaaKW4
import Derived.Test.YtnjbheammpdjfaaKBY
import Derived.Test.YtnjbheammpdjfaaKBW
import Derived.Test.YtnjbheammpdjfaaKXTZ
import Derived.Test.YtnjbheammpdjfaaKXG1
import Derived.Test.YtnjbheammpdjfaaKNSm
import Derived.Test.YtnjbheammpdjfaaKXH2Q
import Derived.Test.YtnjbheammpdjfaaKXG4
import Derived.Test.YtnjbheammpdjfaaKXS6
import Derived.Test.YtnjbheammpdjfaaKEKF
import Derived.Test.YtnjbheammpdjfaaKXME
import Derived.Test.YtnjbheammpdjfaaKXET
import Derived.Test.YtnjbheammpdjfaaKXEC
import Derived.Test.YtnjbheammpdjfaaKXMV
import Derived.Test.YtnjbheammpdjfaaKRP
import Derived.Test.YtnjbheammpdjfaaKXMH
import Derived.WalkKit
import Derived.ProofKit
import Derived.RowKit3
import Derived.WalkSpells
import Derived.StillTactics
import Derived.Deep.QuietTactic
import Derived.BigQuiet
import Derived.Below
import Derived.Deep.OwnRows
import Derived.OwnWalk
import Derived.Laws.BitsAllLaws
import Derived.Laws.Slices
import Derived.Laws.Bits64b
import Derived.Laws.FloatArith
import Derived.Deep.RegionHeld3
namespace Go.Proofs.Ytnjbheammpdjfaa
open Go.RowKit
theorem dig_two6 : dig 2 = [2] := by decide +kernel
/-- the ratio 2 -/
def I8 (base : Nat) (w : World) (s : Bool) (p : Option Addr) (l c : Nat) (q : Option Addr) (k d : Nat) : Prop := ∃ b, Own w base (.slice p l c) (dig (2 * b)) ∧ Own w base (.slice q k d) (dig b) ∧ s = false ∧ b ≠ 0 ∧ blen b ≤ 10
theorem I8.kp {base : Nat} {w : World} {s : Bool} {p : Option Addr} {l c : Nat} {q : Option Addr} {k d : Nat} {w' : World} (h : I8 base w s p l c q k d) (g : Kp w w') : I8 base w' s p l c q k d := by
  obtain ⟨b, h1, h2, h3⟩ := h
  exact ⟨b, h1.kp g, h2.kp g, h3⟩
theorem I8.mono {base : Nat} {w : World} {s : Bool} {p : Option Addr} {l c : Nat} {q : Option Addr} {k d : Nat} {base' : Nat} (h : I8 base w s p l c q k d) (g : base' ≤ base) : I8 base' w s p l c q k d := by
  obtain ⟨b, h1, h2, h3⟩ := h
  exact ⟨b, h1.mono g, h2.mono g, h3⟩
theorem I8.set {base : Nat} {w : World} {s : Bool} {p : Option Addr} {l c : Nat} {q : Option Addr} {k d : Nat} (h : I8 base w s p l c q k d) {x : Addr} (hx : x.block < base) (u : Value) : I8 base (w.setCell x u) s p l c q k d := by
  obtain ⟨b, h1, h2, h3⟩ := h
  exact ⟨b, h1.setOther hx u, h2.setOther hx u, h3⟩
set_option maxRecDepth 20000 in
set_option maxHeartbeats 1000000 in
theorem int2_ (w : World) : Calls Try.prog 81 #[.int .i64 2] w fun e w' => ∃ (s : Bool) (p : Option Addr) (l c : Nat) (q : Option Addr) (k d : Nat), e = .returned (.agg #[.bool s, .slice p l c, .slice q k d]) ∧ I8 w.heap.size w' s p l c q k d ∧ Kp w w' := by
  obtain ⟨B, hB⟩ : ∃ B, B = w.heap.size := ⟨_, rfl⟩
  obtain ⟨w0, hw0⟩ : ∃ w0, w0 = w.alloc (.cells #[.bool false, .slice none 0 0, .slice none 0 0] 59) := ⟨_, rfl⟩
  have kw : Kp w w0 := by rw [hw0]; exact (Kp.refl w).alloc _
  have r0 : w0.cell? ⟨B, 0, none⟩ = some (.bool false) := by rw [hw0, hB]; simp [go_sem]
  have r1 : w0.cell? ⟨B, 1, none⟩ = some (.slice none 0 0) := by rw [hw0, hB]; simp [go_sem]
  have r2 : w0.cell? ⟨B, 2, none⟩ = some (.slice none 0 0) := by rw [hw0, hB]; simp [go_sem]
  have f0 : w0.frozen? ⟨B, 0, none⟩ = false := by rw [hw0, hB]; simp [go_sem]
  have f1 : w0.frozen? ⟨B, 1, none⟩ = false := by rw [hw0, hB]; simp [go_sem]
  have f2 : w0.frozen? ⟨B, 2, none⟩ = false := by rw [hw0, hB]; simp [go_sem]
  have hlt := cell_lt r0
  have hs := rsmall_ 2 (by decide) w0
  have HW : Hid (w0 = w.alloc (.cells #[.bool false, .slice none 0 0, .slice none 0 0] 59) ∧ B = w.heap.size ∧ Kp w w0) := ⟨hw0, hB, kw⟩
  clear hw0 hB kw
  go_enter Try.func81, Try.ntmps81
  go_wp2_with fail
  rw [← HW.out.2.1]
  try rw [← HW.out.1]
  refine hs.mono ?_; rintro e w1 ⟨v, rfl, ho, k1⟩
  obtain ⟨pv, cv, rfl, hav, hcv⟩ := ho.arr
  obtain ⟨L, hL⟩ : ∃ L, L = (dig 2).length := ⟨_, rfl⟩
  rw [← hL]
  obtain ⟨g4, hg4⟩ : ∃ g4, g4 = w1.heap.size := ⟨_, rfl⟩
  obtain ⟨w4, hw4⟩ : ∃ w4, w4 = w1.alloc (.cells #[.int .u32 1] 105) := ⟨_, rfl⟩
  have k4 : Kp w1 w4 := by rw [hw4]; exact (Kp.refl _).alloc _
  have ar4 : Arr w4 (some ⟨g4, 0, none⟩) (dig 1) := by
    have h := (row1 w1 1).all rfl
    rw [← hw4, ← hg4] at h
    rw [dig_one6]
    exact h
  have h := frac_ false (.slice pv (dig 2).length cv) (.slice (some ⟨g4, 0, none⟩) (dig 1).length 1) (dig 2) (dig 1) 0 w4 ⟨pv, cv, rfl, hav.grown k4, hcv⟩ ⟨some ⟨g4, 0, none⟩, 1, rfl, ar4, by rw [dig_one6]; decide⟩ (Wd_dig _) (Wd_dig _) (by rw [dig_two6]; decide) (by rw [dig_one6]; decide) (by rw [val_dig]; decide) (by decide)
  rw [val_dig, val_dig] at h
  rw [show (dig 1).length = 1 from by rw [dig_one6]; rfl] at h
  rw [← hL] at h
  have k04 := k1.trans k4
  have HG : Hid (g4 = w1.heap.size ∧ w4 = w1.alloc (.cells #[.int .u32 1] 105)) := ⟨hg4, hw4⟩
  replace r0 := kkeep k04 r0
  replace r1 := kkeep k04 r1
  replace r2 := kkeep k04 r2
  replace f0 := (kfro k04 hlt).trans f0
  replace f1 := (kfro k04 hlt).trans f1
  replace f2 := (kfro k04 hlt).trans f2
  have HK : Hid (Kp w0 w4 ∧ B < w0.heap.size) := ⟨k04, hlt⟩
  have hlt4 := cell_lt r0
  clear hs ho hav hcv hL hg4 hw4 k4 ar4 k1 k04 hlt
  go_wp2_with fail
  rw [← HG.out.1, ← HG.out.2]
  refine h.mono ?_; rintro e w5 ⟨vn, vd, a', b', ng, rfl, o1, o2, ff, k5⟩
  obtain ⟨pn, cn, rfl, an, ln⟩ := o1.arr
  obtain ⟨pd, cd, rfl, ad, ld⟩ := o2.arr
  replace r0 := kkeep k5 r0
  replace r1 := kkeep k5 r1
  replace r2 := kkeep k5 r2
  replace f0 := (kfro k5 hlt4).trans f0
  replace f1 := (kfro k5 hlt4).trans f1
  replace f2 := (kfro k5 hlt4).trans f2
  have hp : I8 w4.heap.size w5 ng pn (dig a').length cn pd (dig b').length cd := by
    have e := frac_exact9 2 1 a' b' 0 2 ff.1 (by decide) (by decide)
    rw [Nat.pow_zero, Nat.mul_one] at e
    refine ⟨b', by rw [← e]; exact o1, o2, ff.2 (by decide), ff.1.1, ?_⟩
    have := ff.1.2.2.2.2
    have h2 : blen 1 = 1 := blen_uniq 1 0 (by decide) (by decide)
    simp at this; omega
  have hq := (((hp.set (x := ⟨B, 0, none⟩) hlt4 (.bool ng)).set (x := ⟨B, 1, none⟩) hlt4 (.slice pn (dig a').length cn)).set (x := ⟨B, 2, none⟩) hlt4 (.slice pd (dig b').length cd)).mono (base' := w.heap.size) (by have h1 := Below.size HW.out.2.2; have h2 := Below.size HK.out.1; omega)
  have hkw : Kp w (((w5.setCell ⟨B, 0, none⟩ (.bool ng)).setCell ⟨B, 1, none⟩ (.slice pn (dig a').length cn)).setCell ⟨B, 2, none⟩ (.slice pd (dig b').length cd)) := by
    have hB := HW.out.2.1
    exact ((((HW.out.2.2.trans HK.out.1).trans k5).setCell (by rw [hB]; exact Nat.le_refl _) _).setCell (by rw [hB]; exact Nat.le_refl _) _).setCell (by rw [hB]; exact Nat.le_refl _) _
  generalize (dig a').length = La at hq hkw ⊢
  generalize (dig b').length = Lb at hq hkw ⊢
  have HO : Hid (_ ∧ _) := ⟨hq, hkw⟩
  clear h hp hq hkw o1 o2 ff k5 an ln ad ld hlt4 HG
  go_wp2
  exact bodyPost_ret (v := .agg #[.bool ng, .slice pn La cn, .slice pd Lb cd]) (by simp [results, Try.results81, go_sem, r0, r1, r2]) rfl ⟨ng, pn, La, cn, pd, Lb, cd, rfl, HO.out.1, HO.out.2⟩
set_option maxRecDepth 20000 in
set_option maxHeartbeats 1000000 in
theorem rquo9_ (sa sb : Bool) (a1 a2 b1 b2 : Nat) (P1 P2 Q1 Q2 : Option Addr) (C1 C2 D1 D2 : Nat) (w : World) (h1 : Arr w P1 (dig a1)) (l1 : (dig a1).length ≤ C1) (h2 : Arr w P2 (dig a2)) (l2 : (dig a2).length ≤ C2) (h3 : Arr w Q1 (dig b1)) (l3 : (dig b1).length ≤ D1) (h4 : Arr w Q2 (dig b2)) (l4 : (dig b2).length ≤ D2) (k1 : len32 a1 ≤ 4000) (k2 : len32 a2 ≤ 4000) (k3 : len32 b1 ≤ 4000) (k4 : len32 b2 ≤ 4000) (z2 : a2 ≠ 0) (z4 : b1 ≠ 0) (X D : Nat) (hX : X = a1 * b2) (hD : D = a2 * b1) (lX : len32 X ≤ 16000) (lD : len32 D ≤ 16000) :
    Calls Try.prog 80 #[.agg #[.bool sa, .slice P1 (dig a1).length C1, .slice P2 (dig a2).length C2], .agg #[.bool sb, .slice Q1 (dig b1).length D1, .slice Q2 (dig b2).length D2]] w fun e w' => ∃ (vn vd : Value) (a' b' : Nat) (ng : Bool), e = .returned (.agg #[.bool ng, vn, vd]) ∧ Ls w' vn (dig a') ∧ Ls w' vd (dig b') ∧ (FracOf X D 0 a' b' ∧ (X ≠ 0 → ng = (sa ^^ sb))) ∧ Kp w w' := by
  have hz : D ≠ 0 := by rw [hD]; exact Nat.mul_ne_zero z2 z4
  obtain ⟨E1, g1⟩ : ∃ E, E = (dig a1).length := ⟨_, rfl⟩
  obtain ⟨E2, g2⟩ : ∃ E, E = (dig a2).length := ⟨_, rfl⟩
  obtain ⟨E3, g3⟩ : ∃ E, E = (dig b1).length := ⟨_, rfl⟩
  obtain ⟨E4, g4⟩ : ∃ E, E = (dig b2).length := ⟨_, rfl⟩
  rw [← g1, ← g2, ← g3, ← g4]
  obtain ⟨B, hB⟩ : ∃ B, B = w.heap.size := ⟨_, rfl⟩
  obtain ⟨wA, hwA⟩ : ∃ wA, wA = w.alloc (.cells #[.bool sa, .slice P1 E1 C1, .slice P2 E2 C2] 59) := ⟨_, rfl⟩
  obtain ⟨wB, hwB⟩ : ∃ wB, wB = wA.alloc (.cells #[.bool sb, .slice Q1 E3 D1, .slice Q2 E4 D2] 59) := ⟨_, rfl⟩
  obtain ⟨w0, hw0⟩ : ∃ w0, w0 = wB.alloc (.cells #[.bool false, .slice none 0 0, .slice none 0 0] 59) := ⟨_, rfl⟩
  have sA : wA.heap.size = B + 1 := by rw [hwA, hB]; simp
  have sB : wB.heap.size = B + 2 := by rw [hwB]; simp [sA]
  have kAB : Kp wA wB := by rw [hwB]; exact (Kp.refl wA).alloc _
  have x0 : wB.cell? ⟨B, 0, none⟩ = some (.bool sa) := kkeep kAB (by rw [hwA, hB]; simp [go_sem])
  have x1 : wB.cell? ⟨B, 1, none⟩ = some (.slice P1 E1 C1) := kkeep kAB (by rw [hwA, hB]; simp [go_sem])
  have x2 : wB.cell? ⟨B, 2, none⟩ = some (.slice P2 E2 C2) := kkeep kAB (by rw [hwA, hB]; simp [go_sem])
  have y0 : wB.cell? ⟨B + 1, 0, none⟩ = some (.bool sb) := by rw [hwB, ← sA]; simp [go_sem]
  have y1 : wB.cell? ⟨B + 1, 1, none⟩ = some (.slice Q1 E3 D1) := by rw [hwB, ← sA]; simp [go_sem]
  have y2 : wB.cell? ⟨B + 1, 2, none⟩ = some (.slice Q2 E4 D2) := by rw [hwB, ← sA]; simp [go_sem]
  have r0 : w0.cell? ⟨B + 2, 0, none⟩ = some (.bool false) := by rw [hw0, ← sB]; simp [go_sem]
  have r1 : w0.cell? ⟨B + 2, 1, none⟩ = some (.slice none 0 0) := by rw [hw0, ← sB]; simp [go_sem]
  have r2 : w0.cell? ⟨B + 2, 2, none⟩ = some (.slice none 0 0) := by rw [hw0, ← sB]; simp [go_sem]
  have f0 : w0.frozen? ⟨B + 2, 0, none⟩ = false := by rw [hw0, ← sB]; simp [go_sem]
  have f1 : w0.frozen? ⟨B + 2, 1, none⟩ = false := by rw [hw0, ← sB]; simp [go_sem]
  have f2 : w0.frozen? ⟨B + 2, 2, none⟩ = false := by rw [hw0, ← sB]; simp [go_sem]
  have kw : Kp w w0 := by rw [hw0, hwB, hwA]; exact (((Kp.refl w).alloc _).alloc _).alloc _
  have kS : Kp wB w0 := by rw [hw0]; exact (Kp.refl wB).alloc _
  have kD : Kp wB w0.drew := kS.drew
  have hge : wB.heap.size ≤ (⟨B + 2, 0, none⟩ : Addr).block := by simp only; omega
  have hlt := cell_lt r0
  have HP1 : Hid (∀ W : World, Kp w0 W → Calls Try.prog 91 #[.slice P1 E1 C1, .slice Q2 E4 D2] W fun e w' => ∃ p c, e = .returned (.slice p (dig X).length c) ∧ Arr w' p (dig X) ∧ (dig X).length ≤ c ∧ Kp W w') := by
    show ∀ W : World, Kp w0 W → Calls Try.prog 91 #[.slice P1 E1 C1, .slice Q2 E4 D2] W fun e w' => ∃ p c, e = .returned (.slice p (dig X).length c) ∧ Arr w' p (dig X) ∧ (dig X).length ≤ c ∧ Kp W w'
    intro W k
    rw [hX]; exact timesR _ _ a1 b2 W ⟨P1, C1, by rw [g1], h1.grown (kw.trans k), l1⟩ ⟨Q2, D2, by rw [g4], h4.grown (kw.trans k), l4⟩ (by omega) (by omega)
  have HP2 : Hid (∀ W : World, Kp w0 W → Calls Try.prog 91 #[.slice P2 E2 C2, .slice Q1 E3 D1] W fun e w' => ∃ p c, e = .returned (.slice p (dig D).length c) ∧ Arr w' p (dig D) ∧ (dig D).length ≤ c ∧ Kp W w') := by
    show ∀ W : World, Kp w0 W → Calls Try.prog 91 #[.slice P2 E2 C2, .slice Q1 E3 D1] W fun e w' => ∃ p c, e = .returned (.slice p (dig D).length c) ∧ Arr w' p (dig D) ∧ (dig D).length ≤ c ∧ Kp W w'
    intro W k
    rw [hD]; exact timesR _ _ a2 b1 W ⟨P2, C2, by rw [g2], h2.grown (kw.trans k), l2⟩ ⟨Q1, D1, by rw [g3], h3.grown (kw.trans k), l3⟩ (by omega) (by omega)
  obtain ⟨NX, hNX⟩ : ∃ N, N = (dig X).length := ⟨_, rfl⟩
  obtain ⟨ND, hND⟩ : ∃ N, N = (dig D).length := ⟨_, rfl⟩
  obtain ⟨st, hst⟩ : ∃ st, st = (sa ^^ sb) := ⟨_, rfl⟩
  have hst2 : (sa != sb) = st := by rw [hst]
  have hst3 : (!decide (sa = sb)) = st := by rw [hst]; cases sa <;> cases sb <;> rfl
  have hst4 : (!(sa == sb)) = st := by rw [hst]; cases sa <;> cases sb <;> rfl
  have HFR : Hid (∀ (p : Option Addr) (c : Nat) (q : Option Addr) (d : Nat) (W : World), Kp w0 W → Arr W p (dig X) → (dig X).length ≤ c → Arr W q (dig D) → (dig D).length ≤ d → Calls Try.prog 92 #[.bool st, .slice p (dig X).length c, .slice q (dig D).length d, .int .i64 0] W fun e w' => ∃ (vn vd : Value) (a' b' : Nat) (ng : Bool), e = .returned (.agg #[.bool ng, vn, vd]) ∧ Own w' W.heap.size vn (dig a') ∧ Own w' W.heap.size vd (dig b') ∧ (FracOf X D 0 a' b' ∧ (X ≠ 0 → ng = st)) ∧ Kp W w') := by
    show ∀ (p : Option Addr) (c : Nat) (q : Option Addr) (d : Nat) (W : World), Kp w0 W → Arr W p (dig X) → (dig X).length ≤ c → Arr W q (dig D) → (dig D).length ≤ d → Calls Try.prog 92 #[.bool st, .slice p (dig X).length c, .slice q (dig D).length d, .int .i64 0] W fun e w' => ∃ (vn vd : Value) (a' b' : Nat) (ng : Bool), e = .returned (.agg #[.bool ng, vn, vd]) ∧ Own w' W.heap.size vn (dig a') ∧ Own w' W.heap.size vd (dig b') ∧ (FracOf X D 0 a' b' ∧ (X ≠ 0 → ng = st)) ∧ Kp W w'
    intro p c q d W kk ar ll ar' ll'
    have g := frac_ st (.slice p (dig X).length c) (.slice q (dig D).length d) (dig X) (dig D) 0 W ⟨p, c, rfl, ar, ll⟩ ⟨q, d, rfl, ar', ll'⟩ (Wd_dig _) (Wd_dig _) (by change len32 _ ≤ _; omega) (by change len32 _ ≤ _; omega) (by rw [val_dig]; exact hz) (by decide)
    rw [val_dig, val_dig] at g
    exact g
  rw [← hNX, ← hND] at HFR
  rw [← hNX] at HP1
  rw [← hND] at HP2
  rw [← hst]
  have HW : Hid (w0 = wB.alloc (.cells #[.bool false, .slice none 0 0, .slice none 0 0] 59) ∧ wB = wA.alloc (.cells #[.bool sb, .slice Q1 E3 D1, .slice Q2 E4 D2] 59) ∧ wA = w.alloc (.cells #[.bool sa, .slice P1 E1 C1, .slice P2 E2 C2] 59) ∧ B = w.heap.size ∧ Kp w w0) := ⟨hw0, hwB, hwA, hB, kw⟩
  clear hNX hND hst hw0 hwB hwA hB sA sB kw kAB h1 l1 h2 l2 h3 l3 h4 l4 k1 k2 k3 k4 z2 z4 hX hD hz lX lD g1 g2 g3 g4
  go_enter Try.func80, Try.ntmps80
  go_upto_region 1 with fail
  rw [← HW.out.2.2.2.1]
  try rw [← HW.out.2.2.1]
  try rw [← HW.out.2.1]
  try rw [← HW.out.1]
  go_region_held3 (fun w' => w'.cell? ⟨B, 0, none⟩ = some (.bool sa) ∧ w'.cell? ⟨B, 1, none⟩ = some (.slice P1 E1 C1) ∧ w'.cell? ⟨B, 2, none⟩ = some (.slice P2 E2 C2) ∧ w'.cell? ⟨B + 1, 0, none⟩ = some (.bool sb) ∧ w'.cell? ⟨B + 1, 1, none⟩ = some (.slice Q1 E3 D1) ∧ w'.cell? ⟨B + 1, 2, none⟩ = some (.slice Q2 E4 D2)) (refine ⟨kkeep (W := wB) ?_ x0, kkeep (W := wB) ?_ x1, kkeep (W := wB) ?_ x2, kkeep (W := wB) ?_ y0, kkeep (W := wB) ?_ y1, kkeep (W := wB) ?_ y2⟩ <;> ((repeat (first | with_reducible exact kC | with_reducible exact kB | with_reducible exact kA | with_reducible exact kS | with_reducible exact kD | with_reducible exact Kp.refl _ | with_reducible refine Kp.drew ?_ | refine Kp.setCell ?_ hge _)); done)) (first | (go_at_call 92; have hh := ar2; refine (HFR.out pp cc pq cq _ ?q1 ?q2 ll1 ?q3 ll2).mono ?_; (case q1 => ((repeat (first | with_reducible exact kk2 | with_reducible exact kk1 | with_reducible exact Kp.refl _ | with_reducible refine Kp.drew ?_)); done)); (case q2 => exact ar1.grown k12); (case q3 => exact ar2); rintro e v3 ⟨vn, vd, a', b', ng, rfl, o1, o2, ff, k23⟩; have kk3 : Kp w0 v3 := Kp.trans ?q4 k23; (case q4 => ((repeat (first | with_reducible exact kk2 | with_reducible exact kk1 | with_reducible exact Kp.refl _ | with_reducible refine Kp.drew ?_)); done)); have kC : Kp wB v3 := kS.trans kk3; obtain ⟨pn, cn, rfl, an, ln⟩ := o1.arr; obtain ⟨pd, cd, rfl, ad, ld⟩ := o2.arr; have R0 := kkeep kk3 r0; have R1 := kkeep kk3 r1; have R2 := kkeep kk3 r2; have F0 := (kfro kk3 hlt).trans f0; have F1 := (kfro kk3 hlt).trans f1; have F2 := (kfro kk3 hlt).trans f2) | (go_at_call 91; have hh := ar1; refine (HP2.out _ ?q5).mono ?_; (case q5 => ((repeat (first | with_reducible exact kk2 | with_reducible exact kk1 | with_reducible exact Kp.refl _ | with_reducible refine Kp.drew ?_)); done)); rintro e v2 ⟨pq, cq, rfl, ar2, ll2, k12⟩; have kk2 : Kp w0 v2 := Kp.trans ?q7 k12; (case q7 => ((repeat (first | with_reducible exact kk2 | with_reducible exact kk1 | with_reducible exact Kp.refl _ | with_reducible refine Kp.drew ?_)); done)); have kB : Kp wB v2 := kS.trans kk2) | (go_at_call 91; refine (HP1.out _ ?q8).mono ?_; (case q8 => ((repeat (first | with_reducible exact kk2 | with_reducible exact kk1 | with_reducible exact Kp.refl _ | with_reducible refine Kp.drew ?_)); done)); rintro e v1 ⟨pp, cc, rfl, ar1, ll1, k01⟩; have kk1 : Kp w0 v1 := Kp.trans ?q10 k01; (case q10 => ((repeat (first | with_reducible exact kk2 | with_reducible exact kk1 | with_reducible exact Kp.refl _ | with_reducible refine Kp.drew ?_)); done)); have kA : Kp wB v1 := kS.trans kk1))
  have hs1 := Below.size kk2
  obtain ⟨wz, hwz⟩ : ∃ wz, wz = ((v3.setCell ⟨B + 2, 0, none⟩ (.bool ng)).setCell ⟨B + 2, 1, none⟩ (.slice pn (dig a').length cn)).setCell ⟨B + 2, 2, none⟩ (.slice pd (dig b').length cd) := ⟨_, rfl⟩
  have kb : Kb (B + 2) v3 wz := by rw [hwz]; exact (((Kb.refl (B + 2) v3).setCell 0 _).setCell 1 _).setCell 2 _
  have O1 := o1.kb kb (fun g hg => by have := o1.lt g hg; omega)
  have O2 := o2.kb kb (fun g hg => by have := o2.lt g hg; omega)
  have hkw : Kp w wz := kb.kp (HW.out.2.2.2.2.trans kk3) (by rw [HW.out.2.2.2.1]; omega)
  have HO : Hid (Ls wz (.slice pn (dig a').length cn) (dig a') ∧ Ls wz (.slice pd (dig b').length cd) (dig b') ∧ (FracOf X D 0 a' b' ∧ (X ≠ 0 → ng = st)) ∧ Kp w wz ∧ wz = ((v3.setCell ⟨B + 2, 0, none⟩ (.bool ng)).setCell ⟨B + 2, 1, none⟩ (.slice pn (dig a').length cn)).setCell ⟨B + 2, 2, none⟩ (.slice pd (dig b').length cd)) := ⟨O1.ls, O2.ls, ff, hkw, hwz⟩
  clear hs1 hwz kb O1 O2 hkw o1 o2 ff k23 kk3 kC an ln ad ld kk2 k12 kB ar2 ll2 kk1 k01 kA ar1 ll1 HP1 HP2 HFR kS kD hge
  go_wp2
  obtain ⟨q1, q2, q3, q4, q5⟩ := HO.out
  rw [q5] at q1 q2 q4
  exact bodyPost_ret (v := .agg #[.bool ng, .slice pn (dig a').length cn, .slice pd (dig b').length cd]) (by simp [results, Try.results80, go_sem, R0, R1, R2]) rfl ⟨_, _, a', b', ng, rfl, q1, q2, q3, q4⟩

/-- a ratio that is rounded to the nearest as the half of V is -/
def HP8 (w : World) (s : Bool) (p : Option Addr) (l c : Nat) (q : Option Addr) (k d : Nat) (V : Int) : Prop := ∃ a b, Ls w (.slice p l c) (dig a) ∧ Ls w (.slice q k d) (dig b) ∧ b ≠ 0 ∧ blen a ≤ 4194304 ∧ blen b ≤ 4194304 ∧ refW 53 1074 2098 9218868437227405311 0 0 s a b = hfW V
theorem vhalf_ (V : Int) (s : Bool) (p : Option Addr) (l c : Nat) (q : Option Addr) (k d : Nat) (s2 : Bool) (p2 : Option Addr) (l2 c2 : Nat) (q2 : Option Addr) (k2 d2 : Nat) (B1 B2 : Nat) (w : World) (h1 : VP B1 w s p l c q k d V) (h2 : I8 B2 w s2 p2 l2 c2 q2 k2 d2) : Calls Try.prog 80 #[.agg #[.bool s, .slice p l c, .slice q k d], .agg #[.bool s2, .slice p2 l2 c2, .slice q2 k2 d2]] w fun e w' => ∃ (s3 : Bool) (p3 : Option Addr) (l3 c3 : Nat) (q3 : Option Addr) (k3 d3 : Nat), e = .returned (.agg #[.bool s3, .slice p3 l3 c3, .slice q3 k3 d3]) ∧ HP8 w' s3 p3 l3 c3 q3 k3 d3 V ∧ Kp w w' := by
  obtain ⟨a1, a2, u1, u2, u3⟩ := h1
  obtain ⟨y, v1, v2, v3, v4, v5⟩ := h2
  obtain ⟨K, hK⟩ : ∃ K : Nat, K = 1074 := ⟨_, rfl⟩
  obtain ⟨f1, f2, f3, f4, f5⟩ := u3 K hK
  obtain ⟨P1, C1, e1, x1, y1⟩ := u1.arr
  obtain ⟨P2, C2, e2, x2, y2⟩ := u2.arr
  obtain ⟨Q1, D1, e3, x3, y3⟩ := v1.arr
  obtain ⟨Q2, D2, e4, x4, y4⟩ := v2.arr
  rw [e1, e2, e3, e4, v3]
  have b2 : blen (2 * y) ≤ 12 := by
    rw [blen_le_iff]
    have := (blen_le_iff y 10).1 v5
    have e : (2 : Nat) ^ 12 = 4096 := by decide
    have e' : (2 : Nat) ^ 10 = 1024 := by decide
    omega
  have bl : ∀ u v : Nat, blen u ≤ 100000 → blen v ≤ 12 → blen (u * v) ≤ 100012 := fun u v h1 h2 => by
    obtain ⟨T5, hT5⟩ : ∃ T5 : Nat, T5 = 100000 := ⟨_, rfl⟩
    have g : blen (u * v) ≤ T5 + 12 := by
      rw [blen_le_iff, Nat.pow_add]
      exact Nat.mul_lt_mul'' ((blen_le_iff u T5).1 (by omega)) ((blen_le_iff v 12).1 h2)
    omega
  obtain ⟨X, hX⟩ : ∃ X, X = a1 * y := ⟨_, rfl⟩
  obtain ⟨D, hD⟩ : ∃ D, D = a2 * (2 * y) := ⟨_, rfl⟩
  have bX : blen X ≤ 100012 := by rw [hX]; exact bl _ _ f4 (by omega)
  have bD : blen D ≤ 100012 := by rw [hD]; exact bl _ _ f5 b2
  refine (rquo9_ s false a1 a2 (2 * y) y P1 P2 Q1 Q2 C1 C2 D1 D2 w x1 y1 x2 y2 x3 y3 x4 y4 (dlen a1 4000 (by omega)) (dlen a2 4000 (by omega)) (dlen _ 4000 (by omega)) (dlen y 4000 (by omega)) f1 (by omega) X D hX hD (dlen X 16000 (by omega)) (dlen D 16000 (by omega))).mono ?_
  rintro e w' ⟨vn, vd, a', b', ng, rfl, o1, o2, ⟨hF, hn⟩, g⟩
  obtain ⟨p3, c3, rfl, -, -⟩ := id o1
  obtain ⟨q3, d3, rfl, -, -⟩ := id o2
  refine ⟨ng, p3, _, c3, q3, _, d3, rfl, ⟨a', b', o1, o2, hF.1, ?_, ?_, ?_⟩, g⟩
  · have g1 := hF.2.2.2.1; simp at g1; omega
  · have g1 := hF.2.2.2.2; simp at g1; omega
  · have hsx : (s ^^ false) = s := by cases s <;> rfl
    rw [hsx] at hn
    have h := refW_fin 0 ng s X D a' b' 0 hF hn K hK
    rw [← hK, h]
    unfold hfW
    have hx0 : X = 0 ↔ V = 0 := by
      have hp := Nat.two_pow_pos K
      rw [hX]
      constructor
      · intro h0
        rcases Nat.mul_eq_zero.1 h0 with h1 | h1
        · rw [h1, Nat.zero_mul] at f2
          rcases Nat.mul_eq_zero.1 f2.symm with h2 | h2 <;> omega
        · omega
      · intro h0
        rw [h0, Int.natAbs_zero, Nat.zero_mul] at f2
        rcases Nat.mul_eq_zero.1 f2 with h1 | h1
        · rw [h1, Nat.zero_mul]
        · omega
    by_cases c : X = 0
    · rw [if_pos c, if_pos (hx0.1 c)]
    · have hv : V ≠ 0 := fun h0 => c (hx0.2 h0)
      rw [if_neg c, if_neg hv, ← f3 hv]
      have hd : dirN s 0 = 0 := by unfold dirN; cases s <;> rfl
      have e9 : rV 0 53 X D (0 + 1074) = rU 0 53 V.natAbs 2 := by
        unfold rV
        rw [show ((0 : Int) + 1074).toNat = K from by omega, show (-((0 : Int) + 1074)).toNat = 0 from by omega, Nat.pow_zero, Nat.mul_one]
        apply rU_ratio _ _ _ _ _ _ (by rw [hD]; exact Nat.mul_pos (by omega) (by omega)) (by decide)
        rw [hX, hD, Nat.mul_right_comm a1 y, f2]
        generalize V.natAbs = vv
        rw [Nat.mul_assoc, Nat.mul_assoc, Nat.mul_comm y 2]
      rw [hd, e9]
theorem hbits_ (s : Bool) (p : Option Addr) (l c : Nat) (q : Option Addr) (k d : Nat) (V : Int) (w : World) (h : HP8 w s p l c q k d V) : Calls Try.prog 69 #[.int .i64 0, .agg #[.bool s, .slice p l c, .slice q k d]] w fun e w' => e = .returned (.int .u64 ((hfW V : Nat) : Int)) ∧ Kp w w' := by
  obtain ⟨a, b, u1, u2, u3, u4, u5, u6⟩ := h
  have h := rbits_ 0 s (.slice p l c) (.slice q k d) a b w u1 u2 u3 u4 u5
  rw [u6] at h
  exact h
set_option maxRecDepth 20000 in
set_option maxHeartbeats 1000000 in
theorem rmidN_ (X Y LO HI : Int) (hr : ∀ w : World, Calls Try.prog 29 #[.agg #[.int .u64 X, .int .u64 Y]] w fun e w' => e = .returned (.agg #[.int .u64 LO, .int .u64 HI]) ∧ Kp w w') (t1 : (LO == 9218868437227405312) = true) (t2 : (HI == 18442240474082181120) = true) (w : World) : Calls Try.prog 52 #[.agg #[.int .u64 X, .int .u64 Y]] w fun e w' => e = .returned (.int .u64 9221120237041090561) ∧ Kp w w' := by
  go_enter Try.func52, Try.ntmps52
  go_wp2_with (first | (go_at_call 29; refine (hr _).mono ?_; rintro e w1 ⟨rfl, g1⟩; have kw : Kp w w1 := Kp.trans ((Kp.refl w).alloc _) g1))
  refine Fq.wp_region_grow (by kernel_rfl) (by kernel_rfl) (fun ι _ G hG hall => ?_)
  have c0 : ∀ n, (G n).cell? ⟨w1.heap.size, 0, none⟩ = some (.int .u64 LO) := fun n => Fq.gkeep (hG n) (by simp [go_sem])
  have c1 : ∀ n, (G n).cell? ⟨w1.heap.size, 1, none⟩ = some (.int .u64 HI) := fun n => Fq.gkeep (hG n) (by simp [go_sem])
  have kG : ∀ n, Kp w1 (G n) := fun n => Kp.trans ((Kp.refl w1).alloc _) (hG n)
  repeat (go_big_quiet_step (first | (go_at_call 50; exact (Fq.rempty_ _).mono (fun e w' h => ⟨h.1, hall _ (by rw [h.2]; exact (hG _).alloc _ _)⟩))))
  refine wpQuiet_nil ?_
  rintro _ ⟨nq, rfl⟩
  have y0 := c0 nq
  have y1 := c1 nq
  have kW := kG nq
  clear c0 c1 kG hall
  generalize G nq = W at y0 y1 kW ⊢
  clear hG
  go_wp2
  exact bodyPost_ret (v := .int .u64 9221120237041090561) (by simp [results, Try.results52, go_sem]) rfl ⟨rfl, Kp.trans kw kW⟩
set_option maxRecDepth 20000 in
set_option maxHeartbeats 1000000 in
theorem rmidE_ (X Y LO HI : Int) (hr : ∀ w : World, Calls Try.prog 29 #[.agg #[.int .u64 X, .int .u64 Y]] w fun e w' => e = .returned (.agg #[.int .u64 LO, .int .u64 HI]) ∧ Kp w w') (t1 : (LO == 9218868437227405312) = false) (t2 : (LO == 18442240474082181120) = true) (t3 : (HI == 9218868437227405312) = true) (w : World) : Calls Try.prog 52 #[.agg #[.int .u64 X, .int .u64 Y]] w fun e w' => e = .returned (.int .u64 0) ∧ Kp w w' := by
  go_enter Try.func52, Try.ntmps52
  go_wp2_with (first | (go_at_call 29; refine (hr _).mono ?_; rintro e w1 ⟨rfl, g1⟩; have kw : Kp w w1 := Kp.trans ((Kp.refl w).alloc _) g1))
  refine Fq.wp_region_grow (by kernel_rfl) (by kernel_rfl) (fun ι _ G hG hall => ?_)
  have c0 : ∀ n, (G n).cell? ⟨w1.heap.size, 0, none⟩ = some (.int .u64 LO) := fun n => Fq.gkeep (hG n) (by simp [go_sem])
  have c1 : ∀ n, (G n).cell? ⟨w1.heap.size, 1, none⟩ = some (.int .u64 HI) := fun n => Fq.gkeep (hG n) (by simp [go_sem])
  have kG : ∀ n, Kp w1 (G n) := fun n => Kp.trans ((Kp.refl w1).alloc _) (hG n)
  repeat (go_big_quiet_step (first | (go_at_call 50; exact (Fq.rempty_ _).mono (fun e w' h => ⟨h.1, hall _ (by rw [h.2]; exact (hG _).alloc _ _)⟩))))
  refine wpQuiet_nil ?_
  rintro _ ⟨nq, rfl⟩
  have y0 := c0 nq
  have y1 := c1 nq
  have kW := kG nq
  clear c0 c1 kG hall
  generalize G nq = W at y0 y1 kW ⊢
  clear hG
  go_wp2
  refine Fq.wp_region_grow (by kernel_rfl) (by kernel_rfl) (fun ι _ G hG hall => ?_)
  have c0 : ∀ n, (G n).cell? ⟨w1.heap.size, 0, none⟩ = some (.int .u64 LO) := fun n => Fq.gkeep (hG n) y0
  have c1 : ∀ n, (G n).cell? ⟨w1.heap.size, 1, none⟩ = some (.int .u64 HI) := fun n => Fq.gkeep (hG n) y1
  have kG : ∀ n, Kp w (G n) := fun n => Kp.trans (Kp.trans kw kW) (hG n)
  repeat (go_big_quiet_step (first | (go_at_call 68; exact (Fq.rentire_ _).mono (fun e w' h => ⟨h.1, hall _ (by rw [h.2]; exact (hG _).alloc _ _)⟩))))
  refine wpQuiet_nil ?_
  rintro _ ⟨nq, rfl⟩
  have z0 := c0 nq
  have z1 := c1 nq
  have kZ := kG nq
  clear c0 c1 kG hall y0 y1 kW
  generalize G nq = W2 at z0 z1 kZ ⊢
  clear hG
  go_wp2
  exact bodyPost_ret (v := .int .u64 0) (by simp [results, Try.results52, go_sem]) rfl ⟨rfl, kZ⟩
set_option maxRecDepth 20000 in
set_option maxHeartbeats 1000000 in
theorem rmidL_ (X Y LO HI : Int) (hr : ∀ w : World, Calls Try.prog 29 #[.agg #[.int .u64 X, .int .u64 Y]] w fun e w' => e = .returned (.agg #[.int .u64 LO, .int .u64 HI]) ∧ Kp w w') (t1 : (LO == 9218868437227405312) = false) (t2 : (LO == 18442240474082181120) = true) (t3 : (HI == 9218868437227405312) = false) (w : World) : Calls Try.prog 52 #[.agg #[.int .u64 X, .int .u64 Y]] w fun e w' => e = .returned (.int .u64 18442240474082181119) ∧ Kp w w' := by
  go_enter Try.func52, Try.ntmps52
  go_wp2_with (first | (go_at_call 29; refine (hr _).mono ?_; rintro e w1 ⟨rfl, g1⟩; have kw : Kp w w1 := Kp.trans ((Kp.refl w).alloc _) g1))
  refine Fq.wp_region_grow (by kernel_rfl) (by kernel_rfl) (fun ι _ G hG hall => ?_)
  have c0 : ∀ n, (G n).cell? ⟨w1.heap.size, 0, none⟩ = some (.int .u64 LO) := fun n => Fq.gkeep (hG n) (by simp [go_sem])
  have c1 : ∀ n, (G n).cell? ⟨w1.heap.size, 1, none⟩ = some (.int .u64 HI) := fun n => Fq.gkeep (hG n) (by simp [go_sem])
  have kG : ∀ n, Kp w1 (G n) := fun n => Kp.trans ((Kp.refl w1).alloc _) (hG n)
  repeat (go_big_quiet_step (first | (go_at_call 50; exact (Fq.rempty_ _).mono (fun e w' h => ⟨h.1, hall _ (by rw [h.2]; exact (hG _).alloc _ _)⟩))))
  refine wpQuiet_nil ?_
  rintro _ ⟨nq, rfl⟩
  have y0 := c0 nq
  have y1 := c1 nq
  have kW := kG nq
  clear c0 c1 kG hall
  generalize G nq = W at y0 y1 kW ⊢
  clear hG
  go_wp2
  refine Fq.wp_region_grow (by kernel_rfl) (by kernel_rfl) (fun ι _ G hG hall => ?_)
  have c0 : ∀ n, (G n).cell? ⟨w1.heap.size, 0, none⟩ = some (.int .u64 LO) := fun n => Fq.gkeep (hG n) y0
  have c1 : ∀ n, (G n).cell? ⟨w1.heap.size, 1, none⟩ = some (.int .u64 HI) := fun n => Fq.gkeep (hG n) y1
  have kG : ∀ n, Kp w (G n) := fun n => Kp.trans (Kp.trans kw kW) (hG n)
  repeat (go_big_quiet_step (first | (go_at_call 68; exact (Fq.rentire_ _).mono (fun e w' h => ⟨h.1, hall _ (by rw [h.2]; exact (hG _).alloc _ _)⟩))))
  refine wpQuiet_nil ?_
  rintro _ ⟨nq, rfl⟩
  have z0 := c0 nq
  have z1 := c1 nq
  have kZ := kG nq
  clear c0 c1 kG hall y0 y1 kW
  generalize G nq = W2 at z0 z1 kZ ⊢
  clear hG
  go_wp2
  exact bodyPost_ret (v := .int .u64 18442240474082181119) (by simp [results, Try.results52, go_sem]) rfl ⟨rfl, kZ⟩
set_option maxRecDepth 20000 in
set_option maxHeartbeats 1000000 in
theorem rmidH_ (X Y LO HI : Int) (hr : ∀ w : World, Calls Try.prog 29 #[.agg #[.int .u64 X, .int .u64 Y]] w fun e w' => e = .returned (.agg #[.int .u64 LO, .int .u64 HI]) ∧ Kp w w') (t1 : (LO == 9218868437227405312) = false) (t2 : (LO == 18442240474082181120) = false) (t3 : (HI == 9218868437227405312) = true) (w : World) : Calls Try.prog 52 #[.agg #[.int .u64 X, .int .u64 Y]] w fun e w' => e = .returned (.int .u64 9218868437227405311) ∧ Kp w w' := by
  go_enter Try.func52, Try.ntmps52
  go_wp2_with (first | (go_at_call 29; refine (hr _).mono ?_; rintro e w1 ⟨rfl, g1⟩; have kw : Kp w w1 := Kp.trans ((Kp.refl w).alloc _) g1))
  refine Fq.wp_region_grow (by kernel_rfl) (by kernel_rfl) (fun ι _ G hG hall => ?_)
  have c0 : ∀ n, (G n).cell? ⟨w1.heap.size, 0, none⟩ = some (.int .u64 LO) := fun n => Fq.gkeep (hG n) (by simp [go_sem])
  have c1 : ∀ n, (G n).cell? ⟨w1.heap.size, 1, none⟩ = some (.int .u64 HI) := fun n => Fq.gkeep (hG n) (by simp [go_sem])
  have kG : ∀ n, Kp w1 (G n) := fun n => Kp.trans ((Kp.refl w1).alloc _) (hG n)
  repeat (go_big_quiet_step (first | (go_at_call 50; exact (Fq.rempty_ _).mono (fun e w' h => ⟨h.1, hall _ (by rw [h.2]; exact (hG _).alloc _ _)⟩))))
  refine wpQuiet_nil ?_
  rintro _ ⟨nq, rfl⟩
  have y0 := c0 nq
  have y1 := c1 nq
  have kW := kG nq
  clear c0 c1 kG hall
  generalize G nq = W at y0 y1 kW ⊢
  clear hG
  go_wp2
  refine Fq.wp_region_grow (by kernel_rfl) (by kernel_rfl) (fun ι _ G hG hall => ?_)
  have c0 : ∀ n, (G n).cell? ⟨w1.heap.size, 0, none⟩ = some (.int .u64 LO) := fun n => Fq.gkeep (hG n) y0
  have c1 : ∀ n, (G n).cell? ⟨w1.heap.size, 1, none⟩ = some (.int .u64 HI) := fun n => Fq.gkeep (hG n) y1
  have kG : ∀ n, Kp w (G n) := fun n => Kp.trans (Kp.trans kw kW) (hG n)
  repeat (go_big_quiet_step (first | (go_at_call 68; exact (Fq.rentire_ _).mono (fun e w' h => ⟨h.1, hall _ (by rw [h.2]; exact (hG _).alloc _ _)⟩))))
  refine wpQuiet_nil ?_
  rintro _ ⟨nq, rfl⟩
  have z0 := c0 nq
  have z1 := c1 nq
  have kZ := kG nq
  clear c0 c1 kG hall y0 y1 kW
  generalize G nq = W2 at z0 z1 kZ ⊢
  clear hG
  go_wp2
  exact bodyPost_ret (v := .int .u64 9218868437227405311) (by simp [results, Try.results52, go_sem]) rfl ⟨rfl, kZ⟩
set_option linter.unusedSimpArgs false
set_option maxRecDepth 20000 in
set_option maxHeartbeats 2000000 in
theorem rmidF_ (X Y LO HI : Int) (N1 N2 : Bool) (M1 M2 : Nat) (hr : ∀ w : World, Calls Try.prog 29 #[.agg #[.int .u64 X, .int .u64 Y]] w fun e w' => e = .returned (.agg #[.int .u64 LO, .int .u64 HI]) ∧ Kp w w') (t1 : (LO == 9218868437227405312) = false) (t2 : (LO == 18442240474082181120) = false) (t3 : (HI == 9218868437227405312) = false) (hf1 : ∀ w : World, Calls Try.prog 79 #[.int .u64 LO] w fun e w' => ∃ (s : Bool) (p : Option Addr) (l c : Nat) (q : Option Addr) (k d : Nat), e = .returned (.agg #[.bool s, .slice p l c, .slice q k d]) ∧ RP w.heap.size w' s p l c q k d N1 M1 ∧ Kp w w') (hf2 : ∀ w : World, Calls Try.prog 79 #[.int .u64 HI] w fun e w' => ∃ (s : Bool) (p : Option Addr) (l c : Nat) (q : Option Addr) (k d : Nat), e = .returned (.agg #[.bool s, .slice p l c, .slice q k d]) ∧ RP w.heap.size w' s p l c q k d N2 M2 ∧ Kp w w') (w : World) : Calls Try.prog 52 #[.agg #[.int .u64 X, .int .u64 Y]] w fun e w' => e = .returned (.int .u64 ((hfW (Iv N1 M1 + Iv N2 M2) : Nat) : Int)) ∧ Kp w w' := by
  go_enter Try.func52, Try.ntmps52
  go_wp2_with (first | (go_at_call 29; refine (hr _).mono ?_; rintro e w1 ⟨rfl, g1⟩; have kw : Kp w w1 := Kp.trans ((Kp.refl w).alloc _) g1))
  refine Fq.wp_region_grow (by kernel_rfl) (by kernel_rfl) (fun ι _ G hG hall => ?_)
  have c0 : ∀ n, (G n).cell? ⟨w1.heap.size, 0, none⟩ = some (.int .u64 LO) := fun n => Fq.gkeep (hG n) (by simp [go_sem])
  have c1 : ∀ n, (G n).cell? ⟨w1.heap.size, 1, none⟩ = some (.int .u64 HI) := fun n => Fq.gkeep (hG n) (by simp [go_sem])
  have kG : ∀ n, Kp w1 (G n) := fun n => Kp.trans ((Kp.refl w1).alloc _) (hG n)
  repeat (go_big_quiet_step (first | (go_at_call 50; exact (Fq.rempty_ _).mono (fun e w' h => ⟨h.1, hall _ (by rw [h.2]; exact (hG _).alloc _ _)⟩))))
  refine wpQuiet_nil ?_
  rintro _ ⟨nq, rfl⟩
  have y0 := c0 nq
  have y1 := c1 nq
  have kW := kG nq
  clear c0 c1 kG hall
  generalize G nq = W at y0 y1 kW ⊢
  clear hG
  go_wp2
  refine Fq.wp_region_grow (by kernel_rfl) (by kernel_rfl) (fun ι _ G hG hall => ?_)
  have c0 : ∀ n, (G n).cell? ⟨w1.heap.size, 0, none⟩ = some (.int .u64 LO) := fun n => Fq.gkeep (hG n) y0
  have c1 : ∀ n, (G n).cell? ⟨w1.heap.size, 1, none⟩ = some (.int .u64 HI) := fun n => Fq.gkeep (hG n) y1
  have kG : ∀ n, Kp w (G n) := fun n => Kp.trans (Kp.trans kw kW) (hG n)
  repeat (go_big_quiet_step (first | (go_at_call 68; exact (Fq.rentire_ _).mono (fun e w' h => ⟨h.1, hall _ (by rw [h.2]; exact (hG _).alloc _ _)⟩))))
  refine wpQuiet_nil ?_
  rintro _ ⟨nq, rfl⟩
  have z0 := c0 nq
  have z1 := c1 nq
  have kZ := kG nq
  clear c0 c1 kG hall y0 y1 kW
  generalize G nq = W2 at z0 z1 kZ ⊢
  clear hG
  go_wp2
  have zd0 : W2.drew.cell? ⟨w1.heap.size, 0, none⟩ = some (.int .u64 LO) := z0
  have zd1 : W2.drew.cell? ⟨w1.heap.size, 1, none⟩ = some (.int .u64 HI) := z1
  go_region_held3 (fun w' => w'.cell? ⟨w1.heap.size, 0, none⟩ = some (.int .u64 LO) ∧ w'.cell? ⟨w1.heap.size, 1, none⟩ = some (.int .u64 HI)) (first | (with_reducible exact ⟨z0, z1⟩) | (with_reducible exact ⟨zd0, zd1⟩) | (with_reducible exact ⟨c0W20, c0W21⟩) | (with_reducible exact ⟨c1W20, c1W21⟩) | (with_reducible exact ⟨c2W20, c2W21⟩) | (refine ⟨kkeep (W := W2) ?_ z0, kkeep (W := W2) ?_ z1⟩ <;> ((repeat (first | with_reducible exact Kp.refl _ | with_reducible apply Kp.drew | with_reducible apply Kp.alloc)); done)) | (refine ⟨kkeep (W := w3) ?_ c0W20, kkeep (W := w3) ?_ c0W21⟩ <;> ((repeat (first | with_reducible exact Kp.refl _ | with_reducible apply Kp.drew | with_reducible apply Kp.alloc)); done)) | (refine ⟨kkeep (W := w4) ?_ c1W20, kkeep (W := w4) ?_ c1W21⟩ <;> ((repeat (first | with_reducible exact Kp.refl _ | with_reducible apply Kp.drew | with_reducible apply Kp.alloc)); done)) | (refine ⟨kkeep (W := w5) ?_ c2W20, kkeep (W := w5) ?_ c2W21⟩ <;> ((repeat (first | with_reducible exact Kp.refl _ | with_reducible apply Kp.drew | with_reducible apply Kp.alloc)); done)) | (refine ⟨?_, ?_⟩ <;> (refine (World.cell?_setCell_far _ _ _ _ ?_).trans ((World.cell?_setCell_far _ _ _ _ ?_).trans ((World.cell?_setCell_far _ _ _ _ ?_).trans ?_)) <;> first | assumption | (have h90 := cell_lt z0; have h91 := cell_lt z1; have h2 := Below.size KW20; have h3 := Below.size KW21; first | omega | (simp <;> omega))))) (first | (go_at_call_of 79 (Value.int .u64 LO); refine (hf1 _).mono ?_; rintro e w3 ⟨s, p, l, c, q, k, d, rfl, hp, g3⟩; have KW20 : Kp W2 w3 := Kp.trans (by (repeat (first | exact Kp.refl _ | apply Kp.drew | apply Kp.alloc)); done) g3; have c0W20 := kkeep KW20 z0; have c0W21 := kkeep KW20 z1) | (go_at_call_of 79 (Value.int .u64 HI); refine (hf2 _).mono ?_; rintro e w4 ⟨s2, p2, l2, c2, q2, k2, d2, rfl, hp2, g4⟩; have KW21 : Kp W2 w4 := Kp.trans (Kp.trans KW20 (by (repeat (first | exact Kp.refl _ | apply Kp.drew | apply Kp.alloc)); done)) g4; have c1W20 := kkeep KW21 z0; have c1W21 := kkeep KW21 z1) | (go_at_call 78; refine (vadd_ N1 N2 M1 M2 s p l c q k d s2 p2 l2 c2 q2 k2 d2 _ _ _ ((hp.kp (Kp.trans (by (repeat (first | exact Kp.refl _ | apply Kp.drew | apply Kp.alloc)); done) g4)).kp (by (repeat (first | exact Kp.refl _ | apply Kp.drew | apply Kp.alloc)); done)) (hp2.kp (by (repeat (first | exact Kp.refl _ | apply Kp.drew | apply Kp.alloc)); done))).mono ?_; rintro e w5 ⟨s3, p3, l3, c3, q3, k3, d3, rfl, hq, g5⟩; have KW22 : Kp W2 w5 := Kp.trans (Kp.trans KW21 (by (repeat (first | exact Kp.refl _ | apply Kp.drew | apply Kp.alloc)); done)) g5; have c2W20 := kkeep KW22 z0; have c2W21 := kkeep KW22 z1; first | (have m00 : (W2.drew.alloc (.cells #[.bool false, .slice none 0 0, .slice none 0 0] 59)).cell? ⟨W2.heap.size, 0, none⟩ = some (.bool false) := (by simp [go_sem]); have f00 : (W2.drew.alloc (.cells #[.bool false, .slice none 0 0, .slice none 0 0] 59)).frozen? ⟨W2.heap.size, 0, none⟩ = false := (by simp [go_sem]); have m01 : (W2.drew.alloc (.cells #[.bool false, .slice none 0 0, .slice none 0 0] 59)).cell? ⟨W2.heap.size, 1, none⟩ = some (.slice none 0 0) := (by simp [go_sem]); have f01 : (W2.drew.alloc (.cells #[.bool false, .slice none 0 0, .slice none 0 0] 59)).frozen? ⟨W2.heap.size, 1, none⟩ = false := (by simp [go_sem]); have m02 : (W2.drew.alloc (.cells #[.bool false, .slice none 0 0, .slice none 0 0] 59)).cell? ⟨W2.heap.size, 2, none⟩ = some (.slice none 0 0) := (by simp [go_sem]); have f02 : (W2.drew.alloc (.cells #[.bool false, .slice none 0 0, .slice none 0 0] 59)).frozen? ⟨W2.heap.size, 2, none⟩ = false := (by simp [go_sem]); have m10 := kkeep g3 m00; have f10 : w3.frozen? ⟨W2.heap.size, 0, none⟩ = false := (kfro g3 (cell_lt m00)).trans f00; have m11 := kkeep g3 m01; have f11 : w3.frozen? ⟨W2.heap.size, 1, none⟩ = false := (kfro g3 (cell_lt m01)).trans f01; have m12 := kkeep g3 m02; have f12 : w3.frozen? ⟨W2.heap.size, 2, none⟩ = false := (kfro g3 (cell_lt m02)).trans f02; have m20 := kkeep g4 m10; have f20 : w4.frozen? ⟨W2.heap.size, 0, none⟩ = false := (kfro g4 (cell_lt m10)).trans f10; have m21 := kkeep g4 m11; have f21 : w4.frozen? ⟨W2.heap.size, 1, none⟩ = false := (kfro g4 (cell_lt m11)).trans f11; have m22 := kkeep g4 m12; have f22 : w4.frozen? ⟨W2.heap.size, 2, none⟩ = false := (kfro g4 (cell_lt m12)).trans f12; have m30 := kkeep g5 m20; have f30 : w5.frozen? ⟨W2.heap.size, 0, none⟩ = false := (kfro g5 (cell_lt m20)).trans f20; have m31 := kkeep g5 m21; have f31 : w5.frozen? ⟨W2.heap.size, 1, none⟩ = false := (kfro g5 (cell_lt m21)).trans f21; have m32 := kkeep g5 m22; have f32 : w5.frozen? ⟨W2.heap.size, 2, none⟩ = false := (kfro g5 (cell_lt m22)).trans f22; have HS := (((hq.set (x := ⟨W2.heap.size, 0, none⟩) (cell_lt m20) (.bool s3)).set (x := ⟨W2.heap.size, 1, none⟩) (cell_lt m20) (.slice p3 l3 c3)).set (x := ⟨W2.heap.size, 2, none⟩) (cell_lt m20) (.slice q3 k3 d3))) | (have m00 : (w3.alloc (.cells #[.bool false, .slice none 0 0, .slice none 0 0] 59)).cell? ⟨w3.heap.size, 0, none⟩ = some (.bool false) := (by simp [go_sem]); have f00 : (w3.alloc (.cells #[.bool false, .slice none 0 0, .slice none 0 0] 59)).frozen? ⟨w3.heap.size, 0, none⟩ = false := (by simp [go_sem]); have m01 : (w3.alloc (.cells #[.bool false, .slice none 0 0, .slice none 0 0] 59)).cell? ⟨w3.heap.size, 1, none⟩ = some (.slice none 0 0) := (by simp [go_sem]); have f01 : (w3.alloc (.cells #[.bool false, .slice none 0 0, .slice none 0 0] 59)).frozen? ⟨w3.heap.size, 1, none⟩ = false := (by simp [go_sem]); have m02 : (w3.alloc (.cells #[.bool false, .slice none 0 0, .slice none 0 0] 59)).cell? ⟨w3.heap.size, 2, none⟩ = some (.slice none 0 0) := (by simp [go_sem]); have f02 : (w3.alloc (.cells #[.bool false, .slice none 0 0, .slice none 0 0] 59)).frozen? ⟨w3.heap.size, 2, none⟩ = false := (by simp [go_sem]); have m10 := kkeep g4 m00; have f10 : w4.frozen? ⟨w3.heap.size, 0, none⟩ = false := (kfro g4 (cell_lt m00)).trans f00; have m11 := kkeep g4 m01; have f11 : w4.frozen? ⟨w3.heap.size, 1, none⟩ = false := (kfro g4 (cell_lt m01)).trans f01; have m12 := kkeep g4 m02; have f12 : w4.frozen? ⟨w3.heap.size, 2, none⟩ = false := (kfro g4 (cell_lt m02)).trans f02; have m20 := kkeep g5 m10; have f20 : w5.frozen? ⟨w3.heap.size, 0, none⟩ = false := (kfro g5 (cell_lt m10)).trans f10; have m21 := kkeep g5 m11; have f21 : w5.frozen? ⟨w3.heap.size, 1, none⟩ = false := (kfro g5 (cell_lt m11)).trans f11; have m22 := kkeep g5 m12; have f22 : w5.frozen? ⟨w3.heap.size, 2, none⟩ = false := (kfro g5 (cell_lt m12)).trans f12; have HS := (((hq.set (x := ⟨w3.heap.size, 0, none⟩) (cell_lt m10) (.bool s3)).set (x := ⟨w3.heap.size, 1, none⟩) (cell_lt m10) (.slice p3 l3 c3)).set (x := ⟨w3.heap.size, 2, none⟩) (cell_lt m10) (.slice q3 k3 d3))) | (have m00 : (w4.alloc (.cells #[.bool false, .slice none 0 0, .slice none 0 0] 59)).cell? ⟨w4.heap.size, 0, none⟩ = some (.bool false) := (by simp [go_sem]); have f00 : (w4.alloc (.cells #[.bool false, .slice none 0 0, .slice none 0 0] 59)).frozen? ⟨w4.heap.size, 0, none⟩ = false := (by simp [go_sem]); have m01 : (w4.alloc (.cells #[.bool false, .slice none 0 0, .slice none 0 0] 59)).cell? ⟨w4.heap.size, 1, none⟩ = some (.slice none 0 0) := (by simp [go_sem]); have f01 : (w4.alloc (.cells #[.bool false, .slice none 0 0, .slice none 0 0] 59)).frozen? ⟨w4.heap.size, 1, none⟩ = false := (by simp [go_sem]); have m02 : (w4.alloc (.cells #[.bool false, .slice none 0 0, .slice none 0 0] 59)).cell? ⟨w4.heap.size, 2, none⟩ = some (.slice none 0 0) := (by simp [go_sem]); have f02 : (w4.alloc (.cells #[.bool false, .slice none 0 0, .slice none 0 0] 59)).frozen? ⟨w4.heap.size, 2, none⟩ = false := (by simp [go_sem]); have m10 := kkeep g5 m00; have f10 : w5.frozen? ⟨w4.heap.size, 0, none⟩ = false := (kfro g5 (cell_lt m00)).trans f00; have m11 := kkeep g5 m01; have f11 : w5.frozen? ⟨w4.heap.size, 1, none⟩ = false := (kfro g5 (cell_lt m01)).trans f01; have m12 := kkeep g5 m02; have f12 : w5.frozen? ⟨w4.heap.size, 2, none⟩ = false := (kfro g5 (cell_lt m02)).trans f02; have HS := (((hq.set (x := ⟨w4.heap.size, 0, none⟩) (cell_lt m00) (.bool s3)).set (x := ⟨w4.heap.size, 1, none⟩) (cell_lt m00) (.slice p3 l3 c3)).set (x := ⟨w4.heap.size, 2, none⟩) (cell_lt m00) (.slice q3 k3 d3))) | skip))
  all_goals go_wp2
  all_goals (first
    | skip
      have x0 : ((((w5).setCell ⟨W2.heap.size, 0, none⟩ (.bool s3)).setCell ⟨W2.heap.size, 1, none⟩ (.slice p3 l3 c3)).setCell ⟨W2.heap.size, 2, none⟩ (.slice q3 k3 d3)).cell? ⟨W2.heap.size, 0, none⟩ = some (.bool s3) := by simp [go_sem, m30, m31, m32, f30, f31, f32]
      have x1 : ((((w5).setCell ⟨W2.heap.size, 0, none⟩ (.bool s3)).setCell ⟨W2.heap.size, 1, none⟩ (.slice p3 l3 c3)).setCell ⟨W2.heap.size, 2, none⟩ (.slice q3 k3 d3)).cell? ⟨W2.heap.size, 1, none⟩ = some (.slice p3 l3 c3) := by simp [go_sem, m30, m31, m32, f30, f31, f32]
      have x2 : ((((w5).setCell ⟨W2.heap.size, 0, none⟩ (.bool s3)).setCell ⟨W2.heap.size, 1, none⟩ (.slice p3 l3 c3)).setCell ⟨W2.heap.size, 2, none⟩ (.slice q3 k3 d3)).cell? ⟨W2.heap.size, 2, none⟩ = some (.slice q3 k3 d3) := by simp [go_sem, m30, m31, m32, f30, f31, f32]
      have hv5 := HS
      have kV : Kp w ((((w5).setCell ⟨W2.heap.size, 0, none⟩ (.bool s3)).setCell ⟨W2.heap.size, 1, none⟩ (.slice p3 l3 c3)).setCell ⟨W2.heap.size, 2, none⟩ (.slice q3 k3 d3)) := ((((Kp.trans kZ KW22)).setCell (by exact Below.size kZ) _).setCell (by exact Below.size kZ) _).setCell (by exact Below.size kZ) _
      have KZ9 : Kp W2 ((((w5).setCell ⟨W2.heap.size, 0, none⟩ (.bool s3)).setCell ⟨W2.heap.size, 1, none⟩ (.slice p3 l3 c3)).setCell ⟨W2.heap.size, 2, none⟩ (.slice q3 k3 d3)) := (((KW22).setCell (by first | omega | (simp <;> omega)) _).setCell (by first | omega | (simp <;> omega)) _).setCell (by first | omega | (simp <;> omega)) _
      generalize ((((w5).setCell ⟨W2.heap.size, 0, none⟩ (.bool s3)).setCell ⟨W2.heap.size, 1, none⟩ (.slice p3 l3 c3)).setCell ⟨W2.heap.size, 2, none⟩ (.slice q3 k3 d3)) = W5 at x0 x1 x2 hv5 kV KZ9 ⊢
      generalize W2.heap.size = B5 at x0 x1 x2 ⊢
    | skip
      have x0 : ((((w5).setCell ⟨w3.heap.size, 0, none⟩ (.bool s3)).setCell ⟨w3.heap.size, 1, none⟩ (.slice p3 l3 c3)).setCell ⟨w3.heap.size, 2, none⟩ (.slice q3 k3 d3)).cell? ⟨w3.heap.size, 0, none⟩ = some (.bool s3) := by simp [go_sem, m20, m21, m22, f20, f21, f22]
      have x1 : ((((w5).setCell ⟨w3.heap.size, 0, none⟩ (.bool s3)).setCell ⟨w3.heap.size, 1, none⟩ (.slice p3 l3 c3)).setCell ⟨w3.heap.size, 2, none⟩ (.slice q3 k3 d3)).cell? ⟨w3.heap.size, 1, none⟩ = some (.slice p3 l3 c3) := by simp [go_sem, m20, m21, m22, f20, f21, f22]
      have x2 : ((((w5).setCell ⟨w3.heap.size, 0, none⟩ (.bool s3)).setCell ⟨w3.heap.size, 1, none⟩ (.slice p3 l3 c3)).setCell ⟨w3.heap.size, 2, none⟩ (.slice q3 k3 d3)).cell? ⟨w3.heap.size, 2, none⟩ = some (.slice q3 k3 d3) := by simp [go_sem, m20, m21, m22, f20, f21, f22]
      have hv5 := HS
      have kV : Kp w ((((w5).setCell ⟨w3.heap.size, 0, none⟩ (.bool s3)).setCell ⟨w3.heap.size, 1, none⟩ (.slice p3 l3 c3)).setCell ⟨w3.heap.size, 2, none⟩ (.slice q3 k3 d3)) := ((((Kp.trans kZ KW22)).setCell (by have h1 := Below.size kZ; have h2 := Below.size KW20; first | omega | (simp <;> omega)) _).setCell (by have h1 := Below.size kZ; have h2 := Below.size KW20; first | omega | (simp <;> omega)) _).setCell (by have h1 := Below.size kZ; have h2 := Below.size KW20; first | omega | (simp <;> omega)) _
      have KZ9 : Kp W2 ((((w5).setCell ⟨w3.heap.size, 0, none⟩ (.bool s3)).setCell ⟨w3.heap.size, 1, none⟩ (.slice p3 l3 c3)).setCell ⟨w3.heap.size, 2, none⟩ (.slice q3 k3 d3)) := (((KW22).setCell (by have h2 := Below.size KW20; first | omega | (simp <;> omega)) _).setCell (by have h2 := Below.size KW20; first | omega | (simp <;> omega)) _).setCell (by have h2 := Below.size KW20; first | omega | (simp <;> omega)) _
      generalize ((((w5).setCell ⟨w3.heap.size, 0, none⟩ (.bool s3)).setCell ⟨w3.heap.size, 1, none⟩ (.slice p3 l3 c3)).setCell ⟨w3.heap.size, 2, none⟩ (.slice q3 k3 d3)) = W5 at x0 x1 x2 hv5 kV KZ9 ⊢
      generalize w3.heap.size = B5 at x0 x1 x2 ⊢
    | skip
      have x0 : ((((w5).setCell ⟨w4.heap.size, 0, none⟩ (.bool s3)).setCell ⟨w4.heap.size, 1, none⟩ (.slice p3 l3 c3)).setCell ⟨w4.heap.size, 2, none⟩ (.slice q3 k3 d3)).cell? ⟨w4.heap.size, 0, none⟩ = some (.bool s3) := by simp [go_sem, m10, m11, m12, f10, f11, f12]
      have x1 : ((((w5).setCell ⟨w4.heap.size, 0, none⟩ (.bool s3)).setCell ⟨w4.heap.size, 1, none⟩ (.slice p3 l3 c3)).setCell ⟨w4.heap.size, 2, none⟩ (.slice q3 k3 d3)).cell? ⟨w4.heap.size, 1, none⟩ = some (.slice p3 l3 c3) := by simp [go_sem, m10, m11, m12, f10, f11, f12]
      have x2 : ((((w5).setCell ⟨w4.heap.size, 0, none⟩ (.bool s3)).setCell ⟨w4.heap.size, 1, none⟩ (.slice p3 l3 c3)).setCell ⟨w4.heap.size, 2, none⟩ (.slice q3 k3 d3)).cell? ⟨w4.heap.size, 2, none⟩ = some (.slice q3 k3 d3) := by simp [go_sem, m10, m11, m12, f10, f11, f12]
      have hv5 := HS
      have kV : Kp w ((((w5).setCell ⟨w4.heap.size, 0, none⟩ (.bool s3)).setCell ⟨w4.heap.size, 1, none⟩ (.slice p3 l3 c3)).setCell ⟨w4.heap.size, 2, none⟩ (.slice q3 k3 d3)) := ((((Kp.trans kZ KW22)).setCell (by have h1 := Below.size kZ; have h2 := Below.size KW21; first | omega | (simp <;> omega)) _).setCell (by have h1 := Below.size kZ; have h2 := Below.size KW21; first | omega | (simp <;> omega)) _).setCell (by have h1 := Below.size kZ; have h2 := Below.size KW21; first | omega | (simp <;> omega)) _
      have KZ9 : Kp W2 ((((w5).setCell ⟨w4.heap.size, 0, none⟩ (.bool s3)).setCell ⟨w4.heap.size, 1, none⟩ (.slice p3 l3 c3)).setCell ⟨w4.heap.size, 2, none⟩ (.slice q3 k3 d3)) := (((KW22).setCell (by have h2 := Below.size KW21; first | omega | (simp <;> omega)) _).setCell (by have h2 := Below.size KW21; first | omega | (simp <;> omega)) _).setCell (by have h2 := Below.size KW21; first | omega | (simp <;> omega)) _
      generalize ((((w5).setCell ⟨w4.heap.size, 0, none⟩ (.bool s3)).setCell ⟨w4.heap.size, 1, none⟩ (.slice p3 l3 c3)).setCell ⟨w4.heap.size, 2, none⟩ (.slice q3 k3 d3)) = W5 at x0 x1 x2 hv5 kV KZ9 ⊢
      generalize w4.heap.size = B5 at x0 x1 x2 ⊢
    | skip
      have x0 : (w5.alloc (.cells #[.bool s3, .slice p3 l3 c3, .slice q3 k3 d3] 59)).cell? ⟨w5.heap.size, 0, none⟩ = some (.bool s3) := by simp [go_sem]
      have x1 : (w5.alloc (.cells #[.bool s3, .slice p3 l3 c3, .slice q3 k3 d3] 59)).cell? ⟨w5.heap.size, 1, none⟩ = some (.slice p3 l3 c3) := by simp [go_sem]
      have x2 : (w5.alloc (.cells #[.bool s3, .slice p3 l3 c3, .slice q3 k3 d3] 59)).cell? ⟨w5.heap.size, 2, none⟩ = some (.slice q3 k3 d3) := by simp [go_sem]
      have hv5 := hq.kp ((Kp.refl w5).alloc (.cells #[.bool s3, .slice p3 l3 c3, .slice q3 k3 d3] 59))
      have kV : Kp w (w5.alloc (.cells #[.bool s3, .slice p3 l3 c3, .slice q3 k3 d3] 59)) := Kp.trans (Kp.trans kZ KW22) ((Kp.refl w5).alloc _)
      have KZ9 : Kp W2 (w5.alloc (.cells #[.bool s3, .slice p3 l3 c3, .slice q3 k3 d3] 59)) := Kp.trans KW22 ((Kp.refl w5).alloc _)
      generalize ((w5.alloc (.cells #[.bool s3, .slice p3 l3 c3, .slice q3 k3 d3] 59))) = W5 at x0 x1 x2 hv5 kV KZ9 ⊢
      generalize w5.heap.size = B5 at x0 x1 x2 ⊢)
  all_goals (
  have v0 : W5.drew.cell? ⟨B5, 0, none⟩ = some (.bool s3) := x0
  have v1 : W5.drew.cell? ⟨B5, 1, none⟩ = some (.slice p3 l3 c3) := x1
  have v2 : W5.drew.cell? ⟨B5, 2, none⟩ = some (.slice q3 k3 d3) := x2
  go_region_held3 (fun w' => w'.cell? ⟨B5, 0, none⟩ = some (.bool s3) ∧ w'.cell? ⟨B5, 1, none⟩ = some (.slice p3 l3 c3) ∧ w'.cell? ⟨B5, 2, none⟩ = some (.slice q3 k3 d3)) (first | (with_reducible exact ⟨x0, x1, x2⟩) | (with_reducible exact ⟨v0, v1, v2⟩) | (with_reducible exact ⟨i0, i1, i2⟩) | (with_reducible exact ⟨j0, j1, j2⟩) | (with_reducible exact ⟨h0, h1, h2⟩)) (first | (go_at_call 81; refine (int2_ _).mono ?_; rintro e w6 ⟨s5, p5, l5, c5, q5, k5', d5, rfl, hi, g6⟩; have k6 : Kp W5 w6 := Kp.trans (Kp.drew (Kp.refl _)) g6; have i0 := kkeep k6 x0; have i1 := kkeep k6 x1; have i2 := kkeep k6 x2) | (go_at_call 80; refine (vhalf_ _ s3 p3 l3 c3 q3 k3 d3 s5 p5 l5 c5 q5 k5' d5 _ _ _ (hv5.kp k6) hi).mono ?_; rintro e w7 ⟨s6, p6, l6, c6, q6, k6', d6, rfl, hh, g7⟩; have k7 : Kp W5 w7 := Kp.trans k6 g7; have j0 := kkeep k7 x0; have j1 := kkeep k7 x1; have j2 := kkeep k7 x2) | (go_at_call 69; refine (hbits_ s6 p6 l6 c6 q6 k6' d6 _ _ hh).mono ?_; rintro e w8 ⟨rfl, g8⟩; have k8 : Kp W5 w8 := Kp.trans k7 g8; have h0 := kkeep k8 x0; have h1 := kkeep k8 x1; have h2 := kkeep k8 x2))
  go_wp2
  exact bodyPost_ret (v := .int .u64 ((hfW (Iv N1 M1 + Iv N2 M2) : Nat) : Int)) (by simp [results, Try.results52, go_sem]) rfl ⟨rfl, Kp.trans kV k8⟩)
theorem rlo_inf (a b : Nat) (hs : Fq.snd a b = true) (n : Bool) (m : Nat) (e1 : Fq.rlo a b = Fq.wD n m) (c : m = 9218868437227405312) : n = true := by
  have h2 : a ≠ 9218868437227405312 := by intro h; rw [h] at hs; simp [Fq.snd] at hs
  have h1 : Fq.rlo a b ≠ 9218868437227405312 := by simp only [Fq.rlo, hs, if_true, Fq.pla]; split <;> omega
  rw [e1, c] at h1
  cases n
  · exact absurd rfl h1
  · rfl
theorem rhi_inf (a b : Nat) (hs : Fq.snd a b = true) (n : Bool) (m : Nat) (e1 : Fq.rhi a b = Fq.wD n m) (c : m = 9218868437227405312) : n = false := by
  have h2 : b ≠ 18442240474082181120 := by intro h; rw [h] at hs; simp [Fq.snd] at hs
  have h1 : Fq.rhi a b ≠ 18442240474082181120 := by simp only [Fq.rhi, hs, if_true, Fq.pla]; split <;> omega
  rw [e1, c] at h1
  cases n
  · rfl
  · exact absurd rfl h1
theorem wD_inj6 (n n' : Bool) (m m' : Nat) (h : m < 9223372036854775808) (h' : m' < 9223372036854775808) (e : Fq.wD n m = Fq.wD n' m') : n = n' ∧ m = m' := by
  unfold Fq.wD at e
  cases n <;> cases n' <;> simp at e ⊢ <;> omega
theorem pla_ne (x : Nat) : Fq.pla x ≠ 9223372036854775808 := by unfold Fq.pla; split <;> omega
theorem rlo_ne (a b : Nat) : Fq.rlo a b ≠ 9223372036854775808 := by
  unfold Fq.rlo
  split
  · exact pla_ne a
  · decide
theorem rhi_ne (a b : Nat) : Fq.rhi a b ≠ 9223372036854775808 := by
  unfold Fq.rhi
  split
  · exact pla_ne b
  · decide

theorem lo_inf8 (a b : Nat) (s1 : Fq.snd a b = true) (n : Bool) (m : Nat) (l1 : m ≤ 9218868437227405312) (e1 : Fq.rlo a b = Fq.wD n m) : ((((Fq.wD n m : Nat) : Int)) == 9218868437227405312) = false := by
  have i1 := rlo_inf a b s1 n m e1
  have h2 : Fq.wD n m ≠ 9218868437227405312 := by
    intro h
    have hh := wD_inj6 n false m 9218868437227405312 (by omega) (by decide) (h.trans rfl)
    have := i1 hh.2
    rw [hh.1] at this; cases this
  simp; omega
theorem rread8 (a b : Nat) (ha : a < 18446744073709551616) (hb : b < 18446744073709551616) (w : World) : Calls Try.prog 29 #[.agg #[.int .u64 ((a : Nat) : Int), .int .u64 ((b : Nat) : Int)]] w fun e w' => e = .returned (.agg #[.int .u64 ((Fq.rlo a b : Nat) : Int), .int .u64 ((Fq.rhi a b : Nat) : Int)]) ∧ Kp w w' := by
  obtain ⟨n, m, hm, rfl⟩ := Fq.exD a ha
  obtain ⟨n', m', hm', rfl⟩ := Fq.exD b hb
  exact Fq.rread_ n n' m m' hm hm' w
theorem rempty8 (a b : Nat) (s1 : Fq.snd a b = false) : Fq.rlo a b = 9218868437227405312 ∧ Fq.rhi a b = 18442240474082181120 := by
  constructor
  · rw [Fq.rlo, if_neg (by rw [s1]; decide)]
  · rw [Fq.rhi, if_neg (by rw [s1]; decide)]
theorem le_read8 (a b : Nat) (ha : a < 18446744073709551616) (hb : b < 18446744073709551616) (s1 : Fq.snd a b = true) (n g : Bool) (m r : Nat) (l1 : m ≤ 9218868437227405312) (l2 : r ≤ 9218868437227405312) (e1 : Fq.rlo a b = Fq.wD n m) (e2 : Fq.rhi a b = Fq.wD g r) : Fq.plz n m ≤ Fq.plz g r := by
  have h := snd_read8 a b ha hb s1
  rw [e1, e2, Fq.snd_w n g m r (by omega) (by omega)] at h
  exact (of_decide_eq_true h).2.2.1

theorem hfW_pat (V : Int) : ∃ s r, r ≤ 9218868437227405312 ∧ hfW V = Fq.wD s r ∧ (r = 0 → s = false) := by
  unfold hfW
  by_cases c : V = 0
  · exact ⟨false, 0, by decide, by rw [if_pos c]; rfl, fun _ => rfl⟩
  · rw [if_neg c]
    have h := fin_leH 0 (rU 0 53 V.natAbs 2)
    generalize finU 53 2098 9218868437227405311 9218868437227405312 0 (rU 0 53 V.natAbs 2) = x at h ⊢
    by_cases z : x = 0
    · exact ⟨false, 0, by decide, by rw [z]; rfl, fun _ => rfl⟩
    · exact ⟨decide (V < 0), x, h, by unfold mdW Fq.wD; rw [if_neg z], fun h0 => absurd h0 z⟩
/-- the middle, by the ends -/
def mdP (n : Bool) (m : Nat) (g : Bool) (r : Nat) : Nat := if m = 9218868437227405312 then (if r = 9218868437227405312 then 0 else 18442240474082181119) else if r = 9218868437227405312 then 9218868437227405311 else hfW (Iv n m + Iv g r)
theorem mdP_pat (n : Bool) (m : Nat) (g : Bool) (r : Nat) : ∃ s x, x ≤ 9218868437227405312 ∧ mdP n m g r = Fq.wD s x ∧ (x = 0 → s = false) := by
  unfold mdP
  by_cases c1 : m = 9218868437227405312
  · rw [if_pos c1]
    by_cases c2 : r = 9218868437227405312
    · rw [if_pos c2]; exact ⟨false, 0, by decide, rfl, fun _ => rfl⟩
    · rw [if_neg c2]; exact ⟨true, 9218868437227405311, by decide, rfl, fun h => absurd h (by decide)⟩
  · rw [if_neg c1]
    by_cases c2 : r = 9218868437227405312
    · rw [if_pos c2]; exact ⟨false, 9218868437227405311, by decide, rfl, fun _ => rfl⟩
    · rw [if_neg c2]; exact hfW_pat _
theorem midS8_ (a b : Nat) (ha : a < 18446744073709551616) (hb : b < 18446744073709551616) (s1 : Fq.snd a b = true) (n g : Bool) (m r : Nat) (l1 : m ≤ 9218868437227405312) (l2 : r ≤ 9218868437227405312) (e1 : Fq.rlo a b = Fq.wD n m) (e2 : Fq.rhi a b = Fq.wD g r) (w : World) : Calls Try.prog 67 #[.agg #[.float .f64 a, .float .f64 b]] w fun e w' => e = .returned (.float .f64 (mdP n m g r)) ∧ Kp w w' := by
  have hp := Fq.read_ a b ha hb
  have hv := void8_ a b ha hb false (by simpa using s1)
  have i1 := rlo_inf a b s1 n m e1
  have i2 := rhi_inf a b s1 g r e2
  rw [e1, e2] at hp hv
  have q1 := Fq.feq n true m 9218868437227405312 (by omega) (by decide)
  have q2 := Fq.feq g false r 9218868437227405312 (by omega) (by decide)
  have t1 := Fq.flt n true m 9218868437227405311 (by omega) (by decide)
  have t2 := fgt8 g false r 9218868437227405311 (by omega) (by decide)
  rw [show Fq.wD true 9218868437227405312 = 18442240474082181120 from rfl] at q1
  rw [show Fq.wD false 9218868437227405312 = 9218868437227405312 from rfl] at q2
  rw [show Fq.wD true 9218868437227405311 = 18442240474082181119 from rfl] at t1
  rw [show Fq.wD false 9218868437227405311 = 9218868437227405311 from rfl] at t2
  have P1 : Fq.plz n m = if n then -(m : Int) else m := by unfold Fq.plz; cases n <;> rfl
  have P2 : Fq.plz g r = if g then -(r : Int) else r := by unfold Fq.plz; cases g <;> rfl
  have P3 : Fq.plz true 9218868437227405312 = -9218868437227405312 := rfl
  have P4 : Fq.plz false 9218868437227405312 = 9218868437227405312 := rfl
  have P5 : Fq.plz true 9218868437227405311 = -9218868437227405311 := rfl
  have P6 : Fq.plz false 9218868437227405311 = 9218868437227405311 := rfl
  rw [P1, P3] at q1
  rw [P2, P4] at q2
  rw [P1, P5] at t1
  rw [P2, P6] at t2
  unfold mdP
  by_cases c1 : m = 9218868437227405312
  · have nn := i1 c1
    rw [decide_eq_true ⟨l1, by decide, by rw [nn, c1]; rfl⟩] at q1
    rw [decide_eq_true ⟨l1, by decide, by rw [nn, c1]; decide⟩] at t1
    rw [if_pos c1]
    by_cases c2 : r = 9218868437227405312
    · have gg := i2 c2
      rw [decide_eq_true ⟨l2, by decide, by rw [gg, c2]; rfl⟩] at q2
      rw [if_pos c2]
      exact midE_ a b _ _ hp hv q1 q2 w
    · rw [decide_eq_false (by cases g <;> simp <;> omega)] at q2
      rw [if_neg c2]
      exact midL_ a b _ _ hp hv q1 q2 t1 w
  · rw [decide_eq_false (by cases n <;> simp <;> omega)] at q1
    rw [decide_eq_false (by cases n <;> simp <;> omega)] at t1
    rw [if_neg c1]
    by_cases c2 : r = 9218868437227405312
    · have gg := i2 c2
      rw [decide_eq_true ⟨l2, by decide, by rw [gg, c2]; decide⟩] at t2
      rw [if_pos c2]
      exact midH_ a b _ _ hp hv q1 t1 t2 w
    · rw [decide_eq_false (by cases g <;> simp <;> omega)] at t2
      rw [if_neg c2]
      exact midF_ a b _ _ hp hv q1 t1 t2 _ (half8_ n g m r (by omega) (by omega)) w
theorem rmidS8_ (a b : Nat) (ha : a < 18446744073709551616) (hb : b < 18446744073709551616) (s1 : Fq.snd a b = true) (n g : Bool) (m r : Nat) (l1 : m ≤ 9218868437227405312) (l2 : r ≤ 9218868437227405312) (e1 : Fq.rlo a b = Fq.wD n m) (e2 : Fq.rhi a b = Fq.wD g r) (w : World) : Calls Try.prog 52 #[.agg #[.int .u64 ((a : Nat) : Int), .int .u64 ((b : Nat) : Int)]] w fun e w' => e = .returned (.int .u64 ((mdP n m g r : Nat) : Int)) ∧ Kp w w' := by
  have hr := rread8 a b ha hb
  have t1 := lo_inf8 a b s1 n m l1 e1
  have i1 := rlo_inf a b s1 n m e1
  have i2 := rhi_inf a b s1 g r e2
  rw [e1, e2] at hr
  unfold mdP
  by_cases c1 : m = 9218868437227405312
  · have nn := i1 c1
    have u1 : ((((Fq.wD n m : Nat) : Int)) == 18442240474082181120) = true := by rw [nn, c1]; rfl
    rw [if_pos c1]
    by_cases c2 : r = 9218868437227405312
    · have gg := i2 c2
      have u2 : ((((Fq.wD g r : Nat) : Int)) == 9218868437227405312) = true := by rw [gg, c2]; rfl
      rw [if_pos c2]
      exact rmidE_ _ _ _ _ hr t1 u1 u2 w
    · have u2 : ((((Fq.wD g r : Nat) : Int)) == 9218868437227405312) = false := by
        have : Fq.wD g r ≠ 9218868437227405312 := by unfold Fq.wD; cases g <;> simp <;> omega
        simp; omega
      rw [if_neg c2]
      exact rmidL_ _ _ _ _ hr t1 u1 u2 w
  · have u1 : ((((Fq.wD n m : Nat) : Int)) == 18442240474082181120) = false := by
      have : Fq.wD n m ≠ 18442240474082181120 := by unfold Fq.wD; cases n <;> simp <;> omega
      simp; omega
    rw [if_neg c1]
    by_cases c2 : r = 9218868437227405312
    · have gg := i2 c2
      have u2 : ((((Fq.wD g r : Nat) : Int)) == 9218868437227405312) = true := by rw [gg, c2]; rfl
      rw [if_pos c2]
      exact rmidH_ _ _ _ _ hr t1 u1 u2 w
    · have u2 : ((((Fq.wD g r : Nat) : Int)) == 9218868437227405312) = false := by
        have : Fq.wD g r ≠ 9218868437227405312 := by unfold Fq.wD; cases g <;> simp <;> omega
        simp; omega
      rw [if_neg c2]
      exact rmidF_ _ _ _ _ n g m r hr t1 u1 u2 (fromR_ n m (by omega)) (fromR_ g r (by omega)) w
theorem mid_both (a b : Nat) (ha : a < 18446744073709551616) (hb : b < 18446744073709551616) : ∃ (s : Bool) (x : Nat), (∀ w : World, Calls Try.prog 67 #[.agg #[.float .f64 a, .float .f64 b]] w fun e w' => e = .returned (.float .f64 (Fq.wD s x)) ∧ Kp w w') ∧ (∀ w : World, Calls Try.prog 52 #[.agg #[.int .u64 ((a : Nat) : Int), .int .u64 ((b : Nat) : Int)]] w fun e w' => e = .returned (.int .u64 ((Fq.wD s x : Nat) : Int)) ∧ Kp w w') ∧ (x ≤ 9218868437227405312 ∨ (s = false ∧ x = 9221120237041090561)) := by
  by_cases s1 : Fq.snd a b = true
  · obtain ⟨n, m, l1, e1⟩ := rlo_w a b ha hb
    obtain ⟨g, r, l2, e2⟩ := rhi_w a b ha hb
    obtain ⟨s, x, lx, ex, -⟩ := mdP_pat n m g r
    exact ⟨s, x, fun w => by rw [← ex]; exact midS8_ a b ha hb s1 n g m r l1 l2 e1 e2 w, fun w => by rw [← ex]; exact rmidS8_ a b ha hb s1 n g m r l1 l2 e1 e2 w, Or.inl lx⟩
  · have s1 : Fq.snd a b = false := by simpa using s1
    have q := rempty8 a b s1
    have hr := rread8 a b ha hb
    have hv := void8_ a b ha hb true (by simpa using s1)
    rw [q.1, q.2] at hr
    exact ⟨false, 9221120237041090561, fun w => midN_ a b _ _ (Fq.read_ a b ha hb) hv w, fun w => rmidN_ _ _ _ _ hr (by decide) (by decide) w, Or.inr ⟨rfl, rfl⟩⟩
end Go.Proofs.Ytnjbheammpdjfaa
