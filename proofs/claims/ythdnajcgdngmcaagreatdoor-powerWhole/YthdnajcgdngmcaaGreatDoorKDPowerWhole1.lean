import Derived.Test.YthdnajcgdngmcaaGreatDoorKDPowerWhole0
import Derived.WalkKit
import Derived.ProofKit
import Derived.RowKit3
import Derived.WalkSpells
import Derived.StillTactics
import Derived.Deep.QuietTactic
import Derived.BigQuiet
import Derived.Below
import Derived.Deep.OwnRows
import Derived.OwnWalk
import Derived.Laws.BitsAllLaws
import Derived.Laws.Slices
import Derived.Laws.Bits64b
import Derived.Laws.FloatArith
import Derived.Deep.RegionHeld3
import Derived.Deep.CutRange
import Derived.Deep.DeepCutAuto
namespace Go.Proofs.YthdnajcgdngmcaaGreatDoor
open Go.RowKit
set_option linter.unusedVariables false
def H3c (w : World) (b : Nat) (v0 v1 v2 : Value) : Prop := w.cell? ⟨b, 0, none⟩ = some v0 ∧ w.cell? ⟨b, 1, none⟩ = some v1 ∧ w.cell? ⟨b, 2, none⟩ = some v2 ∧ w.frozen? ⟨b, 0, none⟩ = false ∧ w.frozen? ⟨b, 1, none⟩ = false ∧ w.frozen? ⟨b, 2, none⟩ = false
theorem H3c.keep {W w : World} {b : Nat} {v0 v1 v2 : Value} (h : H3c W b v0 v1 v2) (g : Kp W w) : H3c w b v0 v1 v2 := by
  obtain ⟨h0, h1, h2, h3, h4, h5⟩ := h
  exact ⟨kkeep g h0, kkeep g h1, kkeep g h2, (kfro g (cell_lt h0)).trans h3, (kfro g (cell_lt h0)).trans h4, (kfro g (cell_lt h0)).trans h5⟩
theorem H3c.new (w : World) (v0 v1 v2 : Value) (t : TypeId) : H3c (w.alloc (.cells #[v0, v1, v2] t)) w.heap.size v0 v1 v2 := by
  unfold H3c; simp [go_sem]
theorem H3c.lt {w : World} {b : Nat} {v0 v1 v2 : Value} (h : H3c w b v0 v1 v2) : b < w.heap.size := cell_lt h.1
set_option maxRecDepth 20000 in
set_option maxHeartbeats 1000000 in
theorem H3c.put {w : World} {b : Nat} {v0 v1 v2 : Value} (h : H3c w b v0 v1 v2) (u0 u1 u2 : Value) : H3c ((((w.setCell ⟨b, 0, none⟩ u0).setCell ⟨b, 1, none⟩ u1).setCell ⟨b, 2, none⟩ u2)) b u0 u1 u2 := by
  obtain ⟨h0, h1, h2, h3, h4, h5⟩ := h
  unfold H3c; simp [go_sem, h0, h1, h2, h3, h4, h5]
theorem H3c.far1 {w : World} {b : Nat} {v0 v1 v2 : Value} (h : H3c w b v0 v1 v2) (x : Addr) (hne : x.block ≠ b) (u : Value) : H3c (w.setCell x u) b v0 v1 v2 := by
  obtain ⟨h0, h1, h2, h3, h4, h5⟩ := h
  exact ⟨(World.cell?_setCell_far _ _ _ _ hne).trans h0, (World.cell?_setCell_far _ _ _ _ hne).trans h1, (World.cell?_setCell_far _ _ _ _ hne).trans h2, (World.frozen?_setCell _ _ _ _).trans h3, (World.frozen?_setCell _ _ _ _).trans h4, (World.frozen?_setCell _ _ _ _).trans h5⟩
set_option maxRecDepth 20000 in
set_option maxHeartbeats 8000000 in
theorem wholeN_ (X1 X2 : Int) (A1 A2 : Nat) (S T : Nat → Nat) (E : Nat → Nat → Int) (P : Nat → Int) (Z : Nat → Int) (hr : ∀ w : World, Calls Tryz.prog 23 #[.agg #[.int .u64 X1, .int .u64 X2]] w fun e w' => e = .returned (.agg #[.int .u64 (P 0), .int .u64 (P 1)]) ∧ Kp w w') (hi : ∀ w : World, Calls Tryz.prog 20 #[.agg #[.int .u64 (P 0), .int .u64 (P 1)]] w fun e w' => e = .returned (.agg #[.float .f64 A1, .float .f64 A2]) ∧ Kp w w') (hs : ∀ k : Nat, k < 6 → ∀ w : World, Calls Tryz.prog 27 #[.int .i64 (k : Int), .agg #[.float .f64 A1, .float .f64 A2]] w fun e w' => e = .returned (.agg #[.float .f64 (S k), .float .f64 (T k)]) ∧ Kp w w') (ho : ∀ k : Nat, k < 6 → ∀ w : World, Calls Tryz.prog 19 #[.agg #[.float .f64 (S k), .float .f64 (T k)]] w fun e w' => e = .returned (.agg #[.int .u64 (E 0 k), .int .u64 (E 1 k)]) ∧ Kp w w') (hlv : ∀ w : World, TU7 w → Calls Tryz.prog 10 #[] w fun e w' => e = .returned (.bool true) ∧ Kp w w') (bJ fJ : Nat → Bool) (fI : Nat → Nat → Bool) (R1 : Nat → Nat → World → Bool → Option Addr → Nat → Nat → Option Addr → Nat → Nat → Prop) (R2 : Nat → World → Bool → Option Addr → Nat → Nat → Option Addr → Nat → Nat → Prop) (R3 : World → Bool → Option Addr → Nat → Nat → Option Addr → Nat → Nat → Prop) (R4 : Nat → World → Bool → Option Addr → Nat → Nat → Option Addr → Nat → Nat → Prop) (kR1 : ∀ i k W W' (s1 : Bool) (p1 : Option Addr) (l1 c1 : Nat) (q1 : Option Addr) (k1 d1 : Nat), Kp W W' → R1 i k W s1 p1 l1 c1 q1 k1 d1 → R1 i k W' s1 p1 l1 c1 q1 k1 d1) (kR2 : ∀ i W W' (s1 : Bool) (p1 : Option Addr) (l1 c1 : Nat) (q1 : Option Addr) (k1 d1 : Nat), Kp W W' → R2 i W s1 p1 l1 c1 q1 k1 d1 → R2 i W' s1 p1 l1 c1 q1 k1 d1) (tT : ∀ i k : Nat, i < 2 → k < 6 → (E i k == 9223372036854775808) = false) (hn : ∀ i k : Nat, i < 2 → k < 6 → ∀ w : World, Calls Tryz.prog 32 #[.int .u64 (E i k)] w fun e w' => e = .returned (.bool false) ∧ Kp w w') (hjE : ∀ i k : Nat, i < 2 → k < 6 → k ≠ 0 → ∀ w : World, Calls Tryz.prog 33 #[.int .u64 (E i k)] w fun e w' => e = .returned (.bool (bJ i)) ∧ Kp w w') (hjF : ∀ i : Nat, i < 2 → ∀ w : World, Calls Tryz.prog 33 #[.int .u64 (P i)] w fun e w' => e = .returned (.bool (bJ i)) ∧ Kp w w') (hfE : ∀ i k : Nat, i < 2 → k < 6 → ∀ w : World, Calls Tryz.prog 34 #[.int .u64 (E i k)] w fun e w' => e = .returned (.bool (fI i k)) ∧ Kp w w') (hfF : ∀ i : Nat, i < 2 → ∀ w : World, Calls Tryz.prog 34 #[.int .u64 (P i)] w fun e w' => e = .returned (.bool (fJ i)) ∧ Kp w w') (hbE : ∀ i k : Nat, i < 2 → k < 6 → fI i k = true → ∀ w : World, Calls Tryz.prog 35 #[.int .u64 (E i k)] w fun e w' => ∃ (s1 : Bool) (p1 : Option Addr) (l1 c1 : Nat) (q1 : Option Addr) (k1 d1 : Nat), e = .returned (.agg #[.bool s1, .slice p1 l1 c1, .slice q1 k1 d1]) ∧ R1 i k w' s1 p1 l1 c1 q1 k1 d1 ∧ Kp w w') (hbF : ∀ i : Nat, i < 2 → fJ i = true → ∀ w : World, Calls Tryz.prog 35 #[.int .u64 (P i)] w fun e w' => ∃ (s2 : Bool) (p2 : Option Addr) (l2 c2 : Nat) (q2 : Option Addr) (k2 d2 : Nat), e = .returned (.agg #[.bool s2, .slice p2 l2 c2, .slice q2 k2 d2]) ∧ R2 i w' s2 p2 l2 c2 q2 k2 d2 ∧ Kp w w') (hln : ∀ i k : Nat, i < 2 → k < 6 → fI i k = true → ∀ (s1 : Bool) (p1 : Option Addr) (l1 c1 : Nat) (q1 : Option Addr) (k1 d1 : Nat) (w : World), R1 i k w s1 p1 l1 c1 q1 k1 d1 → Calls Tryz.prog 36 #[.slice q1 k1 d1] w fun e w' => e = .returned (.int .i64 1) ∧ Kp w w') (hc1 : ∀ i k : Nat, i < 2 → k = 1 → fI i k = true → fJ i = true → ∀ (s1 : Bool) (p1 : Option Addr) (l1 c1 : Nat) (q1 : Option Addr) (k1 d1 : Nat) (s2 : Bool) (p2 : Option Addr) (l2 c2 : Nat) (q2 : Option Addr) (k2 d2 : Nat) (w : World), R1 i k w s1 p1 l1 c1 q1 k1 d1 → R2 i w s2 p2 l2 c2 q2 k2 d2 → Calls Tryz.prog 37 #[.agg #[.bool s1, .slice p1 l1 c1, .slice q1 k1 d1], .agg #[.bool s2, .slice p2 l2 c2, .slice q2 k2 d2]] w fun e w' => e = .returned (.int .i64 (Z i)) ∧ Kp w w') (hZ : ∀ i k : Nat, i < 2 → k = 1 → fI i k = true → fJ i = true → Z i = -1 ∨ Z i = 0) (hi1 : ∀ w : World, Calls Tryz.prog 39 #[.int .i64 1] w fun e w' => ∃ (s3 : Bool) (p3 : Option Addr) (l3 c3 : Nat) (q3 : Option Addr) (k3 d3 : Nat), e = .returned (.agg #[.bool s3, .slice p3 l3 c3, .slice q3 k3 d3]) ∧ R3 w' s3 p3 l3 c3 q3 k3 d3 ∧ Kp w w') (hsb : ∀ i : Nat, i < 2 → fJ i = true → ∀ (s2 : Bool) (p2 : Option Addr) (l2 c2 : Nat) (q2 : Option Addr) (k2 d2 : Nat) (s3 : Bool) (p3 : Option Addr) (l3 c3 : Nat) (q3 : Option Addr) (k3 d3 : Nat) (w : World), R2 i w s2 p2 l2 c2 q2 k2 d2 → R3 w s3 p3 l3 c3 q3 k3 d3 → Calls Tryz.prog 38 #[.agg #[.bool s2, .slice p2 l2 c2, .slice q2 k2 d2], .agg #[.bool s3, .slice p3 l3 c3, .slice q3 k3 d3]] w fun e w' => ∃ (s4 : Bool) (p4 : Option Addr) (l4 c4 : Nat) (q4 : Option Addr) (k4 d4 : Nat), e = .returned (.agg #[.bool s4, .slice p4 l4 c4, .slice q4 k4 d4]) ∧ R4 i w' s4 p4 l4 c4 q4 k4 d4 ∧ Kp w w') (hc2 : ∀ i k : Nat, i < 2 → k = 1 → fI i k = true → fJ i = true → ∀ (s4 : Bool) (p4 : Option Addr) (l4 c4 : Nat) (q4 : Option Addr) (k4 d4 : Nat) (s1 : Bool) (p1 : Option Addr) (l1 c1 : Nat) (q1 : Option Addr) (k1 d1 : Nat) (w : World), R4 i w s4 p4 l4 c4 q4 k4 d4 → R1 i k w s1 p1 l1 c1 q1 k1 d1 → Calls Tryz.prog 37 #[.agg #[.bool s4, .slice p4 l4 c4, .slice q4 k4 d4], .agg #[.bool s1, .slice p1 l1 c1, .slice q1 k1 d1]] w fun e w' => e = .returned (.int .i64 (-1)) ∧ Kp w w') (t1 : (P 0 == 9218868437227405312) = false) (w : World) (hT : TU7 w) : Calls Tryz.prog 7 #[.agg #[.int .u64 X1, .int .u64 X2]] w fun e w' => e = .returned (.bool true) ∧ Kp w w' := by
  have q0 := Fq.H2.new w (.int .u64 X1) (.int .u64 X2) 33
  obtain ⟨x0, x1, x2, x3⟩ := id q0
  go_enter Tryz.func7, Tryz.ntmps7
  go_upto_region 2 with (first | (go_at_call 23; refine (hr _).mono ?_; rintro e w1 ⟨rfl, g1⟩; have q1 := Fq.H2.keep q0 g1; clear x0 x1 x2 x3; obtain ⟨x0, x1, x2, x3⟩ := id q1))
  clear x0 x1 x2 x3
  have kW : Kp w ((w1.setCell ⟨w.heap.size, 0, none⟩ (.int .u64 (P 0))).setCell ⟨w.heap.size, 1, none⟩ (.int .u64 (P 1))) := ((Kp.trans ((Kp.refl w).alloc _) g1).setCell (Nat.le_refl _) _).setCell (Nat.le_refl _) _
  have qx := Fq.H2.put q1 (.int .u64 (P 0)) (.int .u64 (P 1))
  have hTW := hT.kp kW
  generalize hW : ((w1.setCell ⟨w.heap.size, 0, none⟩ (.int .u64 (P 0))).setCell ⟨w.heap.size, 1, none⟩ (.int .u64 (P 1))) = W at kW qx hTW ⊢
  clear hW q0 q1 g1
  go_wp2_with fail
  go_loopw [3] (fun i wr => ∃ k : Nat, k ≤ 6 ∧ i = .int .i64 k ∧ Kp W wr) (fun i _ => 6 - (intOf i).toNat)
  case atStart => exact ⟨0, by omega, rfl, Kp.refl _⟩
  case round =>
    obtain ⟨k, hk, rfl, gr⟩ := hrel
    replace qx := Fq.H2.keep qx gr
    replace hTW := hTW.kp gr
    by_cases ck : k < 6
    · have i1 : (k : Int) < 6 := by omega
      obtain ⟨x0, x1, x2, x3⟩ := id qx
      go_upto_region 6 with (first | (go_at_call 20; refine (hi _).mono ?_; rintro e wa ⟨rfl, ga⟩) | (go_at_call 27; refine (hs k ck _).mono ?_; rintro e wb ⟨rfl, gb⟩) | (go_at_call 19; refine (ho k ck _).mono ?_; rintro e wx ⟨rfl, gx⟩))
      clear x0 x1 x2 x3
      replace gx := Kp.trans (Kp.trans ga gb) gx
      replace qx := Fq.H2.past (Fq.H2.keep qx gx) #[.int .u64 (E 0 k), .int .u64 (E 1 k)] 33
      have qy := Fq.H2.new wx (.int .u64 (E 0 k)) (.int .u64 (E 1 k)) 33
      replace gr := (Kp.trans gr gx).alloc (.cells #[.int .u64 (E 0 k), .int .u64 (E 1 k)] 33)
      replace hTW := (hTW.kp gx).kp ((Kp.refl wx).alloc (.cells #[.int .u64 (E 0 k), .int .u64 (E 1 k)] 33))
      clear gx ga gb
      generalize hW0 : wx.alloc (.cells #[.int .u64 (E 0 k), .int .u64 (E 1 k)] 33) = W9 at gr qx qy hTW ⊢
      generalize wx.heap.size = by9 at qy ⊢
      clear hW0
      go_upto_region 6 with fail
      go_cut [23] from 12 to 105 (fun s23 wx => s23 = .bool false ∧ Kp W9 wx)
      case first =>
        (
          refine Fq.wp_region_grow (by kernel_rfl) (by kernel_rfl) (fun ι _ G hG hall => ?_)
          have tG : ∀ n, TU7 (G n) := fun n => hTW.kp (hG n)
          have cc0 : ∀ n, (G n).cell? ⟨w.heap.size, 0, none⟩ = some (.int .u64 (P 0)) := fun n => Fq.gkeep (hG n) qx.1
          have cc1 : ∀ n, (G n).cell? ⟨w.heap.size, 1, none⟩ = some (.int .u64 (P 1)) := fun n => Fq.gkeep (hG n) qx.2.1
          have cc2 : ∀ n, (G n).cell? ⟨by9, 0, none⟩ = some (.int .u64 (E 0 k)) := fun n => Fq.gkeep (hG n) qy.1
          have cc3 : ∀ n, (G n).cell? ⟨by9, 1, none⟩ = some (.int .u64 (E 1 k)) := fun n => Fq.gkeep (hG n) qy.2.1
          repeat (go_big_quiet_step (first | (go_at_call 31; exact (rempty9_ _).mono (fun e w' h => ⟨h.1, hall _ (Fq.gtrans (hG _) h.2)⟩))))
          refine wpQuiet_nil ?_
          rintro _ ⟨nq, rfl⟩
          have gq : Kp W9 (G nq) := hG nq
          clear cc0 cc1 cc2 cc3 hall hG tG
          go_wp2_with fail
          go_meet
          exact ⟨rfl, gq⟩)
      case rest =>
      obtain ⟨rfl, gw⟩ := hcut
      replace qx := Fq.H2.keep qx gw
      replace qy := Fq.H2.keep qy gw
      replace hTW := hTW.kp gw
      replace gr := Kp.trans gr gw
      clear gw
      generalize wc = W9 at qx qy hTW gr ⊢
      obtain ⟨x0, x1, x2, x3⟩ := id qx
      obtain ⟨y0, y1, y2, y3⟩ := id qy
      have xx := Fq.H2.past qx #[.int .u64 (E 0 k), .int .u64 (E 1 k)] 45
      obtain ⟨xx0, xx1, xx2, xx3⟩ := id xx
      go_wp2_with fail
      have qe : Fq.H2 ((W9.alloc (.cells #[.int .u64 (E 0 k), .int .u64 (E 1 k)] 45)).alloc (.cells #[.int .u64 (P 0), .int .u64 (P 1)] 45)) W9.heap.size (.int .u64 (E 0 k)) (.int .u64 (E 1 k)) := Fq.H2.past (Fq.H2.new W9 _ _ 45) _ _
      have qf : Fq.H2 ((W9.alloc (.cells #[.int .u64 (E 0 k), .int .u64 (E 1 k)] 45)).alloc (.cells #[.int .u64 (P 0), .int .u64 (P 1)] 45)) (W9.heap.size + 1) (.int .u64 (P 0)) (.int .u64 (P 1)) := Fq.H2.two0 W9 _ _ _ _ _ _
      have g8 : Kp W9 ((W9.alloc (.cells #[.int .u64 (E 0 k), .int .u64 (E 1 k)] 45)).alloc (.cells #[.int .u64 (P 0), .int .u64 (P 1)] 45)) := ((Kp.refl W9).alloc _).alloc _
      have hTW8 := hTW.kp g8
      have gr8 := Kp.trans gr g8
      clear x0 x1 x2 x3 y0 y1 y2 y3 xx0 xx1 xx2 xx3 xx hTW qx qy g8 gr
      generalize hW0 : ((W9.alloc (.cells #[.int .u64 (E 0 k), .int .u64 (E 1 k)] 45)).alloc (.cells #[.int .u64 (P 0), .int .u64 (P 1)] 45)) = W8 at qe qf hTW8 gr8 ⊢
      generalize W9.heap.size + 1 = bf at qf ⊢
      generalize W9.heap.size = be at qe ⊢
      clear hW0
      go_loopw [7] (fun i wq => (i = .int .i64 0 ∨ i = .int .i64 1 ∨ i = .int .i64 2) ∧ Kp W8 wq) (fun i _ => 2 - (intOf i).toNat)
      case atStart => exact ⟨Or.inl rfl, Kp.refl _⟩
      case round =>
        rcases hrel with ⟨hi3, gr2⟩
        replace qe := Fq.H2.keep qe gr2
        replace qf := Fq.H2.keep qf gr2
        have hTW := hTW8.kp gr2
        generalize hW7 : wr = W7 at gr2 qe qf hTW ⊢
        clear hW7
        rcases hi3 with rfl | rfl | rfl
        · -- 0
          have tt := tT 0 k (by decide) ck
          have hbb : (bJ 0 != bJ 0) = false := by cases bJ 0 <;> rfl
          go_upto_region 14 with fail
          go_cut [65] from 37 to 105 (fun s65 wx => s65 = .bool false ∧ Kp W7 wx)
          case first =>
            by_cases ck0 : k = 0
            · have j0 : ((k : Int) != 0) = false := by simp; omega
              clear ck0
              refine Fq.wp_region_grow (by kernel_rfl) (by kernel_rfl) (fun ι _ G hG hall => ?_)
              have tG : ∀ n, TU7 (G n) := fun n => hTW.kp (hG n)
              have cc0 : ∀ n, (G n).cell? ⟨be, 0, none⟩ = some (.int .u64 (E 0 k)) := fun n => Fq.gkeep (hG n) qe.1
              have cc1 : ∀ n, (G n).cell? ⟨be, 1, none⟩ = some (.int .u64 (E 1 k)) := fun n => Fq.gkeep (hG n) qe.2.1
              have cc2 : ∀ n, (G n).cell? ⟨bf, 0, none⟩ = some (.int .u64 (P 0)) := fun n => Fq.gkeep (hG n) qf.1
              have cc3 : ∀ n, (G n).cell? ⟨bf, 1, none⟩ = some (.int .u64 (P 1)) := fun n => Fq.gkeep (hG n) qf.2.1
              repeat (go_big_quiet_step (first | (go_at_call 32; exact (hn 0 k (by decide) ck _).mono (fun e w' h => ⟨h.1, hall _ (Fq.gtrans (hG _) h.2)⟩))))
              refine wpQuiet_nil ?_
              rintro _ ⟨nq, rfl⟩
              have gq : Kp W7 (G nq) := hG nq
              clear cc0 cc1 cc2 cc3 hall hG tG
              go_wp2_with fail
              go_meet
              exact ⟨rfl, gq⟩
            · have j0 : ((k : Int) != 0) = true := by simp; omega
              refine Fq.wp_region_grow (by kernel_rfl) (by kernel_rfl) (fun ι _ G hG hall => ?_)
              have tG : ∀ n, TU7 (G n) := fun n => hTW.kp (hG n)
              have cc0 : ∀ n, (G n).cell? ⟨be, 0, none⟩ = some (.int .u64 (E 0 k)) := fun n => Fq.gkeep (hG n) qe.1
              have cc1 : ∀ n, (G n).cell? ⟨be, 1, none⟩ = some (.int .u64 (E 1 k)) := fun n => Fq.gkeep (hG n) qe.2.1
              have cc2 : ∀ n, (G n).cell? ⟨bf, 0, none⟩ = some (.int .u64 (P 0)) := fun n => Fq.gkeep (hG n) qf.1
              have cc3 : ∀ n, (G n).cell? ⟨bf, 1, none⟩ = some (.int .u64 (P 1)) := fun n => Fq.gkeep (hG n) qf.2.1
              repeat (go_big_quiet_step (first | (go_at_call 32; exact (hn 0 k (by decide) ck _).mono (fun e w' h => ⟨h.1, hall _ (Fq.gtrans (hG _) h.2)⟩)) | (go_at_call_of 33 (Value.int .u64 (P 0)); exact (hjF 0 (by decide) _).mono (fun e w' h => ⟨h.1, hall _ (Fq.gtrans (hG _) h.2)⟩)) | (go_at_call 33; exact (hjE 0 k (by decide) ck ck0 _).mono (fun e w' h => ⟨h.1, hall _ (Fq.gtrans (hG _) h.2)⟩))))
              refine wpQuiet_nil ?_
              rintro _ ⟨nq, rfl⟩
              have gq : Kp W7 (G nq) := hG nq
              clear cc0 cc1 cc2 cc3 hall hG tG
              go_wp2_with fail
              go_meet
              exact ⟨rfl, gq⟩
          case rest =>
          obtain ⟨rfl, gv⟩ := hcut
          replace gr2 := Kp.trans gr2 gv
          replace qe := Fq.H2.keep qe gv
          replace qf := Fq.H2.keep qf gv
          replace hTW := hTW.kp gv
          clear gv
          generalize wc = W7 at gr2 qe qf hTW ⊢
          obtain ⟨e0, e1, e2, e3⟩ := id qe
          obtain ⟨f0, f1, f2, f3⟩ := id qf
          have hE9 := hfE 0 k (by decide) ck
          have hF9 := hfF 0 (by decide)
          cases h1 : fI 0 k
          · rw [h1] at hE9
            go_wp2_with (first | (go_at_call_of 34 (Value.int .u64 (E 0 k)); refine (hE9 _).mono ?_; rintro e wv ⟨rfl, gv⟩; replace gr2 := Kp.trans gr2 gv; replace qe := Fq.H2.keep qe gv; replace qf := Fq.H2.keep qf gv; clear gv; clear e0 e1 e2 e3 f0 f1 f2 f3; obtain ⟨e0, e1, e2, e3⟩ := id qe; obtain ⟨f0, f1, f2, f3⟩ := id qf))
            exact ⟨⟨Or.inr (Or.inl (by first | rfl | go_num)), gr2⟩, by simp [intOf]⟩
          · rw [h1] at hE9
            cases h2 : fJ 0
            · rw [h2] at hF9
              go_wp2_with (first | (go_at_call_of 34 (Value.int .u64 (P 0)); refine (hF9 _).mono ?_; rintro e wv ⟨rfl, gv⟩; replace gr2 := Kp.trans gr2 gv; replace qe := Fq.H2.keep qe gv; replace qf := Fq.H2.keep qf gv; clear gv; clear e0 e1 e2 e3 f0 f1 f2 f3; obtain ⟨e0, e1, e2, e3⟩ := id qe; obtain ⟨f0, f1, f2, f3⟩ := id qf) | (go_at_call_of 34 (Value.int .u64 (E 0 k)); refine (hE9 _).mono ?_; rintro e wv ⟨rfl, gv⟩; replace gr2 := Kp.trans gr2 gv; replace qe := Fq.H2.keep qe gv; replace qf := Fq.H2.keep qf gv; clear gv; clear e0 e1 e2 e3 f0 f1 f2 f3; obtain ⟨e0, e1, e2, e3⟩ := id qe; obtain ⟨f0, f1, f2, f3⟩ := id qf))
              exact ⟨⟨Or.inr (Or.inl (by first | rfl | go_num)), gr2⟩, by simp [intOf]⟩
            · rw [h2] at hF9
              go_upto_region 17 with (first | (go_at_call_of 34 (Value.int .u64 (P 0)); refine (hF9 _).mono ?_; rintro e wv ⟨rfl, gv⟩; replace gr2 := Kp.trans gr2 gv; replace qe := Fq.H2.keep qe gv; replace qf := Fq.H2.keep qf gv; clear gv; clear e0 e1 e2 e3 f0 f1 f2 f3; obtain ⟨e0, e1, e2, e3⟩ := id qe; obtain ⟨f0, f1, f2, f3⟩ := id qf) | (go_at_call_of 34 (Value.int .u64 (E 0 k)); refine (hE9 _).mono ?_; rintro e wv ⟨rfl, gv⟩; replace gr2 := Kp.trans gr2 gv; replace qe := Fq.H2.keep qe gv; replace qf := Fq.H2.keep qf gv; clear gv; clear e0 e1 e2 e3 f0 f1 f2 f3; obtain ⟨e0, e1, e2, e3⟩ := id qe; obtain ⟨f0, f1, f2, f3⟩ := id qf))
              go_upto_region 18 with (first | (go_at_call 35; refine (hbE 0 k (by decide) ck h1 _).mono ?_; rintro e w1 ⟨s1, p1, l1, c1, q1, k1, d1, rfl, r1, gv⟩; replace gr2 := Kp.trans gr2 gv; replace qe := Fq.H2.keep qe gv; replace qf := Fq.H2.keep qf gv; replace qe := Fq.H2.past qe #[.bool s1, .slice p1 l1 c1, .slice q1 k1 d1] 49; replace qf := Fq.H2.past qf #[.bool s1, .slice p1 l1 c1, .slice q1 k1 d1] 49; clear e0 e1 e2 e3 f0 f1 f2 f3; obtain ⟨e0, e1, e2, e3⟩ := id qe; obtain ⟨f0, f1, f2, f3⟩ := id qf))
              have qv := H3c.new w1 (.bool s1) (.slice p1 l1 c1) (.slice q1 k1 d1) 49
              have k9 : Kp w1 (w1.alloc (.cells #[.bool s1, .slice p1 l1 c1, .slice q1 k1 d1] 49)) := (Kp.refl w1).alloc _
              replace gr2 := Kp.trans gr2 k9
              replace r1 := kR1 _ _ _ _ _ _ _ _ _ _ _ k9 r1
              clear gv k9
              generalize hW0 : w1.alloc (.cells #[.bool s1, .slice p1 l1 c1, .slice q1 k1 d1] 49) = W5 at gr2 qe qf qv r1 e0 e1 e2 e3 f0 f1 f2 f3 ⊢
              generalize w1.heap.size = bv at qv ⊢
              clear hW0
              go_upto_region 19 with (first | (go_at_call 35; refine (hbF 0 (by decide) h2 _).mono ?_; rintro e w2 ⟨s2, p2, l2, c2, q2, k2, d2, rfl, r2, gv⟩; replace gr2 := Kp.trans gr2 gv; replace qe := Fq.H2.keep qe gv; replace qf := Fq.H2.keep qf gv; replace qv := H3c.keep qv gv; replace r1 := kR1 _ _ _ _ _ _ _ _ _ _ _ gv r1))
              have qw := H3c.new w2 (.bool s2) (.slice p2 l2 c2) (.slice q2 k2 d2) 49
              have k9 : Kp w2 (w2.alloc (.cells #[.bool s2, .slice p2 l2 c2, .slice q2 k2 d2] 49)) := (Kp.refl w2).alloc _
              replace gr2 := Kp.trans gr2 k9
              replace r1 := kR1 _ _ _ _ _ _ _ _ _ _ _ k9 r1
              replace r2 := kR2 _ _ _ _ _ _ _ _ _ _ k9 r2
              replace qv := H3c.keep qv k9
              clear gv k9 e0 e1 e2 e3 f0 f1 f2 f3 qe qf
              generalize hW0 : w2.alloc (.cells #[.bool s2, .slice p2 l2 c2, .slice q2 k2 d2] 49) = W4 at gr2 qv qw r1 r2 ⊢
              generalize w2.heap.size = bw at qw ⊢
              clear hW0
              obtain ⟨v0, v1, v2, v3, v4, v5⟩ := id qv
              go_upto_region 21 with (first | (go_at_call 36; refine (hln 0 k (by decide) ck h1 s1 p1 l1 c1 q1 k1 d1 _ r1).mono ?_; rintro e w3 ⟨rfl, gv⟩; replace gr2 := Kp.trans gr2 gv; replace qv := H3c.keep qv gv; replace qw := H3c.keep qw gv; replace r1 := kR1 _ _ _ _ _ _ _ _ _ _ _ gv r1; replace r2 := kR2 _ _ _ _ _ _ _ _ _ _ gv r2; clear gv))
              clear v0 v1 v2 v3 v4 v5
              generalize hW0 : w3 = W3 at gr2 qv qw r1 r2 ⊢
              clear hW0
              by_cases ck1 : k = 1
              · have j1 : ((k : Int) == 1) = true := by rw [ck1]; rfl
                have jz := hZ 0 k (by decide) ck1 h1 h2
                have hc9 := hc1 0 k (by decide) ck1 h1 h2
                have hc8 := hc2 0 k (by decide) ck1 h1 h2
                clear ck1
                obtain ⟨v0, v1, v2, v3, v4, v5⟩ := id qv
                obtain ⟨w0, w1', w2', w3', w4', w5'⟩ := id qw
                have w1 := w1'
                have w2 := w2'
                rcases jz with hz | hz
                · rw [hz] at hc9
                  clear hz
                  go_region_held3 (fun w' => w'.cell? ⟨bv, 0, none⟩ = some (.bool s1) ∧ w'.cell? ⟨bv, 1, none⟩ = some (.slice p1 l1 c1) ∧ w'.cell? ⟨bv, 2, none⟩ = some (.slice q1 k1 d1) ∧ w'.cell? ⟨bw, 0, none⟩ = some (.bool s2) ∧ w'.cell? ⟨bw, 1, none⟩ = some (.slice p2 l2 c2) ∧ w'.cell? ⟨bw, 2, none⟩ = some (.slice q2 k2 d2)) (first | (with_reducible exact ⟨zv0, zv1, zv2, zw0, zw1, zw2⟩) | (with_reducible exact ⟨dv0, dv1, dv2, dw0, dw1, dw2⟩) | (with_reducible exact ⟨bv0, bv1, bv2, bw0, bw1, bw2⟩) | (with_reducible exact ⟨av0, av1, av2, aw0, aw1, aw2⟩) | (exact ⟨v0, v1, v2, w0, w1, w2⟩)) (first | (go_at_call_of 37 (Value.bool s4); refine (hc8 s4 p4 l4 c4 q4 k4 d4 s1 p1 l1 c1 q1 k1 d1 _ r4 m5).mono ?_; rintro e wz ⟨rfl, gz⟩; have zv0 := kkeep gz dv0; have zv1 := kkeep gz dv1; have zv2 := kkeep gz dv2; have zw0 := kkeep gz dw0; have zw1 := kkeep gz dw1; have zw2 := kkeep gz dw2; have zz := Kp.trans (Kp.trans (Kp.trans za gb) gd) gz) | (go_at_call 38; refine (hsb 0 (by decide) h2 s2 p2 l2 c2 q2 k2 d2 s3 p3 l3 c3 q3 k3 d3 _ m4 r3).mono ?_; rintro e wd ⟨s4, p4, l4, c4, q4, k4, d4, rfl, r4, gd⟩; have m5 := kR1 _ _ _ _ _ _ _ _ _ _ _ gd m3; have dv0 := kkeep gd bv0; have dv1 := kkeep gd bv1; have dv2 := kkeep gd bv2; have dw0 := kkeep gd bw0; have dw1 := kkeep gd bw1; have dw2 := kkeep gd bw2) | (go_at_call 39; refine (hi1 _).mono ?_; rintro e wb ⟨s3, p3, l3, c3, q3, k3, d3, rfl, r3, gb⟩; have m3 := kR1 _ _ _ _ _ _ _ _ _ _ _ gb m1; have m4 := kR2 _ _ _ _ _ _ _ _ _ _ gb m2; have bv0 := kkeep gb av0; have bv1 := kkeep gb av1; have bv2 := kkeep gb av2; have bw0 := kkeep gb aw0; have bw1 := kkeep gb aw1; have bw2 := kkeep gb aw2) | (go_at_call_of 37 (Value.bool s2); refine (hc9 s1 p1 l1 c1 q1 k1 d1 s2 p2 l2 c2 q2 k2 d2 _ (kR1 _ _ _ _ _ _ _ _ _ _ _ (Kp.drew (Kp.refl _)) r1) (kR2 _ _ _ _ _ _ _ _ _ _ (Kp.drew (Kp.refl _)) r2)).mono ?_; rintro e wa ⟨rfl, ga⟩; have za := Kp.trans (Kp.drew (Kp.refl _)) ga; have m1 := kR1 _ _ _ _ _ _ _ _ _ _ _ za r1; have m2 := kR2 _ _ _ _ _ _ _ _ _ _ za r2; have av0 := kkeep za v0; have av1 := kkeep za v1; have av2 := kkeep za v2; have aw0 := kkeep za w0; have aw1 := kkeep za w1; have aw2 := kkeep za w2))
                  go_wp2
                  exact ⟨⟨Or.inr (Or.inl (by first | rfl | go_num)), Kp.trans gr2 zz⟩, by simp [intOf]⟩
                · rw [hz] at hc9
                  clear hz
                  go_region_held3 (fun w' => w'.cell? ⟨bv, 0, none⟩ = some (.bool s1) ∧ w'.cell? ⟨bv, 1, none⟩ = some (.slice p1 l1 c1) ∧ w'.cell? ⟨bv, 2, none⟩ = some (.slice q1 k1 d1) ∧ w'.cell? ⟨bw, 0, none⟩ = some (.bool s2) ∧ w'.cell? ⟨bw, 1, none⟩ = some (.slice p2 l2 c2) ∧ w'.cell? ⟨bw, 2, none⟩ = some (.slice q2 k2 d2)) (first | (with_reducible exact ⟨zv0, zv1, zv2, zw0, zw1, zw2⟩) | (with_reducible exact ⟨dv0, dv1, dv2, dw0, dw1, dw2⟩) | (with_reducible exact ⟨bv0, bv1, bv2, bw0, bw1, bw2⟩) | (with_reducible exact ⟨av0, av1, av2, aw0, aw1, aw2⟩) | (exact ⟨v0, v1, v2, w0, w1, w2⟩)) (first | (go_at_call_of 37 (Value.bool s4); refine (hc8 s4 p4 l4 c4 q4 k4 d4 s1 p1 l1 c1 q1 k1 d1 _ r4 m5).mono ?_; rintro e wz ⟨rfl, gz⟩; have zv0 := kkeep gz dv0; have zv1 := kkeep gz dv1; have zv2 := kkeep gz dv2; have zw0 := kkeep gz dw0; have zw1 := kkeep gz dw1; have zw2 := kkeep gz dw2; have zz := Kp.trans (Kp.trans (Kp.trans za gb) gd) gz) | (go_at_call 38; refine (hsb 0 (by decide) h2 s2 p2 l2 c2 q2 k2 d2 s3 p3 l3 c3 q3 k3 d3 _ m4 r3).mono ?_; rintro e wd ⟨s4, p4, l4, c4, q4, k4, d4, rfl, r4, gd⟩; have m5 := kR1 _ _ _ _ _ _ _ _ _ _ _ gd m3; have dv0 := kkeep gd bv0; have dv1 := kkeep gd bv1; have dv2 := kkeep gd bv2; have dw0 := kkeep gd bw0; have dw1 := kkeep gd bw1; have dw2 := kkeep gd bw2) | (go_at_call 39; refine (hi1 _).mono ?_; rintro e wb ⟨s3, p3, l3, c3, q3, k3, d3, rfl, r3, gb⟩; have m3 := kR1 _ _ _ _ _ _ _ _ _ _ _ gb m1; have m4 := kR2 _ _ _ _ _ _ _ _ _ _ gb m2; have bv0 := kkeep gb av0; have bv1 := kkeep gb av1; have bv2 := kkeep gb av2; have bw0 := kkeep gb aw0; have bw1 := kkeep gb aw1; have bw2 := kkeep gb aw2) | (go_at_call_of 37 (Value.bool s2); refine (hc9 s1 p1 l1 c1 q1 k1 d1 s2 p2 l2 c2 q2 k2 d2 _ (kR1 _ _ _ _ _ _ _ _ _ _ _ (Kp.drew (Kp.refl _)) r1) (kR2 _ _ _ _ _ _ _ _ _ _ (Kp.drew (Kp.refl _)) r2)).mono ?_; rintro e wa ⟨rfl, ga⟩; have za := Kp.trans (Kp.drew (Kp.refl _)) ga; have m1 := kR1 _ _ _ _ _ _ _ _ _ _ _ za r1; have m2 := kR2 _ _ _ _ _ _ _ _ _ _ za r2; have av0 := kkeep za v0; have av1 := kkeep za v1; have av2 := kkeep za v2; have aw0 := kkeep za w0; have aw1 := kkeep za w1; have aw2 := kkeep za w2))
                  go_wp2
                  exact ⟨⟨Or.inr (Or.inl (by first | rfl | go_num)), Kp.trans gr2 zz⟩, by simp [intOf]⟩
              · have j1 : ((k : Int) == 1) = false := by simp; omega
                refine Fq.wp_region_grow (by kernel_rfl) (by kernel_rfl) (fun ι _ G hG hall => ?_)
                repeat (go_big_quiet_step (fail))
                refine wpQuiet_nil ?_
                rintro _ ⟨nq, rfl⟩
                have gq : Kp W3 (G nq) := hG nq
                clear hall hG
                go_wp2
                exact ⟨⟨Or.inr (Or.inl (by first | rfl | go_num)), Kp.trans gr2 gq⟩, by simp [intOf]⟩
        · -- 1
          have tt := tT 1 k (by decide) ck
          have hbb : (bJ 1 != bJ 1) = false := by cases bJ 1 <;> rfl
          go_upto_region 14 with fail
          go_cut [65] from 37 to 105 (fun s65 wx => s65 = .bool false ∧ Kp W7 wx)
          case first =>
            by_cases ck0 : k = 0
            · have j0 : ((k : Int) != 0) = false := by simp; omega
              clear ck0
              refine Fq.wp_region_grow (by kernel_rfl) (by kernel_rfl) (fun ι _ G hG hall => ?_)
              have tG : ∀ n, TU7 (G n) := fun n => hTW.kp (hG n)
              have cc0 : ∀ n, (G n).cell? ⟨be, 0, none⟩ = some (.int .u64 (E 0 k)) := fun n => Fq.gkeep (hG n) qe.1
              have cc1 : ∀ n, (G n).cell? ⟨be, 1, none⟩ = some (.int .u64 (E 1 k)) := fun n => Fq.gkeep (hG n) qe.2.1
              have cc2 : ∀ n, (G n).cell? ⟨bf, 0, none⟩ = some (.int .u64 (P 0)) := fun n => Fq.gkeep (hG n) qf.1
              have cc3 : ∀ n, (G n).cell? ⟨bf, 1, none⟩ = some (.int .u64 (P 1)) := fun n => Fq.gkeep (hG n) qf.2.1
              repeat (go_big_quiet_step (first | (go_at_call 32; exact (hn 1 k (by decide) ck _).mono (fun e w' h => ⟨h.1, hall _ (Fq.gtrans (hG _) h.2)⟩))))
              refine wpQuiet_nil ?_
              rintro _ ⟨nq, rfl⟩
              have gq : Kp W7 (G nq) := hG nq
              clear cc0 cc1 cc2 cc3 hall hG tG
              go_wp2_with fail
              go_meet
              exact ⟨rfl, gq⟩
            · have j0 : ((k : Int) != 0) = true := by simp; omega
              refine Fq.wp_region_grow (by kernel_rfl) (by kernel_rfl) (fun ι _ G hG hall => ?_)
              have tG : ∀ n, TU7 (G n) := fun n => hTW.kp (hG n)
              have cc0 : ∀ n, (G n).cell? ⟨be, 0, none⟩ = some (.int .u64 (E 0 k)) := fun n => Fq.gkeep (hG n) qe.1
              have cc1 : ∀ n, (G n).cell? ⟨be, 1, none⟩ = some (.int .u64 (E 1 k)) := fun n => Fq.gkeep (hG n) qe.2.1
              have cc2 : ∀ n, (G n).cell? ⟨bf, 0, none⟩ = some (.int .u64 (P 0)) := fun n => Fq.gkeep (hG n) qf.1
              have cc3 : ∀ n, (G n).cell? ⟨bf, 1, none⟩ = some (.int .u64 (P 1)) := fun n => Fq.gkeep (hG n) qf.2.1
              repeat (go_big_quiet_step (first | (go_at_call 32; exact (hn 1 k (by decide) ck _).mono (fun e w' h => ⟨h.1, hall _ (Fq.gtrans (hG _) h.2)⟩)) | (go_at_call_of 33 (Value.int .u64 (P 1)); exact (hjF 1 (by decide) _).mono (fun e w' h => ⟨h.1, hall _ (Fq.gtrans (hG _) h.2)⟩)) | (go_at_call 33; exact (hjE 1 k (by decide) ck ck0 _).mono (fun e w' h => ⟨h.1, hall _ (Fq.gtrans (hG _) h.2)⟩))))
              refine wpQuiet_nil ?_
              rintro _ ⟨nq, rfl⟩
              have gq : Kp W7 (G nq) := hG nq
              clear cc0 cc1 cc2 cc3 hall hG tG
              go_wp2_with fail
              go_meet
              exact ⟨rfl, gq⟩
          case rest =>
          obtain ⟨rfl, gv⟩ := hcut
          replace gr2 := Kp.trans gr2 gv
          replace qe := Fq.H2.keep qe gv
          replace qf := Fq.H2.keep qf gv
          replace hTW := hTW.kp gv
          clear gv
          generalize wc = W7 at gr2 qe qf hTW ⊢
          obtain ⟨e0, e1, e2, e3⟩ := id qe
          obtain ⟨f0, f1, f2, f3⟩ := id qf
          have hE9 := hfE 1 k (by decide) ck
          have hF9 := hfF 1 (by decide)
          cases h1 : fI 1 k
          · rw [h1] at hE9
            go_wp2_with (first | (go_at_call_of 34 (Value.int .u64 (E 1 k)); refine (hE9 _).mono ?_; rintro e wv ⟨rfl, gv⟩; replace gr2 := Kp.trans gr2 gv; replace qe := Fq.H2.keep qe gv; replace qf := Fq.H2.keep qf gv; clear gv; clear e0 e1 e2 e3 f0 f1 f2 f3; obtain ⟨e0, e1, e2, e3⟩ := id qe; obtain ⟨f0, f1, f2, f3⟩ := id qf))
            exact ⟨⟨Or.inr (Or.inr (by first | rfl | go_num)), gr2⟩, by simp [intOf]⟩
          · rw [h1] at hE9
            cases h2 : fJ 1
            · rw [h2] at hF9
              go_wp2_with (first | (go_at_call_of 34 (Value.int .u64 (P 1)); refine (hF9 _).mono ?_; rintro e wv ⟨rfl, gv⟩; replace gr2 := Kp.trans gr2 gv; replace qe := Fq.H2.keep qe gv; replace qf := Fq.H2.keep qf gv; clear gv; clear e0 e1 e2 e3 f0 f1 f2 f3; obtain ⟨e0, e1, e2, e3⟩ := id qe; obtain ⟨f0, f1, f2, f3⟩ := id qf) | (go_at_call_of 34 (Value.int .u64 (E 1 k)); refine (hE9 _).mono ?_; rintro e wv ⟨rfl, gv⟩; replace gr2 := Kp.trans gr2 gv; replace qe := Fq.H2.keep qe gv; replace qf := Fq.H2.keep qf gv; clear gv; clear e0 e1 e2 e3 f0 f1 f2 f3; obtain ⟨e0, e1, e2, e3⟩ := id qe; obtain ⟨f0, f1, f2, f3⟩ := id qf))
              exact ⟨⟨Or.inr (Or.inr (by first | rfl | go_num)), gr2⟩, by simp [intOf]⟩
            · rw [h2] at hF9
              go_upto_region 17 with (first | (go_at_call_of 34 (Value.int .u64 (P 1)); refine (hF9 _).mono ?_; rintro e wv ⟨rfl, gv⟩; replace gr2 := Kp.trans gr2 gv; replace qe := Fq.H2.keep qe gv; replace qf := Fq.H2.keep qf gv; clear gv; clear e0 e1 e2 e3 f0 f1 f2 f3; obtain ⟨e0, e1, e2, e3⟩ := id qe; obtain ⟨f0, f1, f2, f3⟩ := id qf) | (go_at_call_of 34 (Value.int .u64 (E 1 k)); refine (hE9 _).mono ?_; rintro e wv ⟨rfl, gv⟩; replace gr2 := Kp.trans gr2 gv; replace qe := Fq.H2.keep qe gv; replace qf := Fq.H2.keep qf gv; clear gv; clear e0 e1 e2 e3 f0 f1 f2 f3; obtain ⟨e0, e1, e2, e3⟩ := id qe; obtain ⟨f0, f1, f2, f3⟩ := id qf))
              go_upto_region 18 with (first | (go_at_call 35; refine (hbE 1 k (by decide) ck h1 _).mono ?_; rintro e w1 ⟨s1, p1, l1, c1, q1, k1, d1, rfl, r1, gv⟩; replace gr2 := Kp.trans gr2 gv; replace qe := Fq.H2.keep qe gv; replace qf := Fq.H2.keep qf gv; replace qe := Fq.H2.past qe #[.bool s1, .slice p1 l1 c1, .slice q1 k1 d1] 49; replace qf := Fq.H2.past qf #[.bool s1, .slice p1 l1 c1, .slice q1 k1 d1] 49; clear e0 e1 e2 e3 f0 f1 f2 f3; obtain ⟨e0, e1, e2, e3⟩ := id qe; obtain ⟨f0, f1, f2, f3⟩ := id qf))
              have qv := H3c.new w1 (.bool s1) (.slice p1 l1 c1) (.slice q1 k1 d1) 49
              have k9 : Kp w1 (w1.alloc (.cells #[.bool s1, .slice p1 l1 c1, .slice q1 k1 d1] 49)) := (Kp.refl w1).alloc _
              replace gr2 := Kp.trans gr2 k9
              replace r1 := kR1 _ _ _ _ _ _ _ _ _ _ _ k9 r1
              clear gv k9
              generalize hW0 : w1.alloc (.cells #[.bool s1, .slice p1 l1 c1, .slice q1 k1 d1] 49) = W5 at gr2 qe qf qv r1 e0 e1 e2 e3 f0 f1 f2 f3 ⊢
              generalize w1.heap.size = bv at qv ⊢
              clear hW0
              go_upto_region 19 with (first | (go_at_call 35; refine (hbF 1 (by decide) h2 _).mono ?_; rintro e w2 ⟨s2, p2, l2, c2, q2, k2, d2, rfl, r2, gv⟩; replace gr2 := Kp.trans gr2 gv; replace qe := Fq.H2.keep qe gv; replace qf := Fq.H2.keep qf gv; replace qv := H3c.keep qv gv; replace r1 := kR1 _ _ _ _ _ _ _ _ _ _ _ gv r1))
              have qw := H3c.new w2 (.bool s2) (.slice p2 l2 c2) (.slice q2 k2 d2) 49
              have k9 : Kp w2 (w2.alloc (.cells #[.bool s2, .slice p2 l2 c2, .slice q2 k2 d2] 49)) := (Kp.refl w2).alloc _
              replace gr2 := Kp.trans gr2 k9
              replace r1 := kR1 _ _ _ _ _ _ _ _ _ _ _ k9 r1
              replace r2 := kR2 _ _ _ _ _ _ _ _ _ _ k9 r2
              replace qv := H3c.keep qv k9
              clear gv k9 e0 e1 e2 e3 f0 f1 f2 f3 qe qf
              generalize hW0 : w2.alloc (.cells #[.bool s2, .slice p2 l2 c2, .slice q2 k2 d2] 49) = W4 at gr2 qv qw r1 r2 ⊢
              generalize w2.heap.size = bw at qw ⊢
              clear hW0
              obtain ⟨v0, v1, v2, v3, v4, v5⟩ := id qv
              go_upto_region 21 with (first | (go_at_call 36; refine (hln 1 k (by decide) ck h1 s1 p1 l1 c1 q1 k1 d1 _ r1).mono ?_; rintro e w3 ⟨rfl, gv⟩; replace gr2 := Kp.trans gr2 gv; replace qv := H3c.keep qv gv; replace qw := H3c.keep qw gv; replace r1 := kR1 _ _ _ _ _ _ _ _ _ _ _ gv r1; replace r2 := kR2 _ _ _ _ _ _ _ _ _ _ gv r2; clear gv))
              clear v0 v1 v2 v3 v4 v5
              generalize hW0 : w3 = W3 at gr2 qv qw r1 r2 ⊢
              clear hW0
              by_cases ck1 : k = 1
              · have j1 : ((k : Int) == 1) = true := by rw [ck1]; rfl
                have jz := hZ 1 k (by decide) ck1 h1 h2
                have hc9 := hc1 1 k (by decide) ck1 h1 h2
                have hc8 := hc2 1 k (by decide) ck1 h1 h2
                clear ck1
                obtain ⟨v0, v1, v2, v3, v4, v5⟩ := id qv
                obtain ⟨w0, w1', w2', w3', w4', w5'⟩ := id qw
                have w1 := w1'
                have w2 := w2'
                rcases jz with hz | hz
                · rw [hz] at hc9
                  clear hz
                  go_region_held3 (fun w' => w'.cell? ⟨bv, 0, none⟩ = some (.bool s1) ∧ w'.cell? ⟨bv, 1, none⟩ = some (.slice p1 l1 c1) ∧ w'.cell? ⟨bv, 2, none⟩ = some (.slice q1 k1 d1) ∧ w'.cell? ⟨bw, 0, none⟩ = some (.bool s2) ∧ w'.cell? ⟨bw, 1, none⟩ = some (.slice p2 l2 c2) ∧ w'.cell? ⟨bw, 2, none⟩ = some (.slice q2 k2 d2)) (first | (with_reducible exact ⟨zv0, zv1, zv2, zw0, zw1, zw2⟩) | (with_reducible exact ⟨dv0, dv1, dv2, dw0, dw1, dw2⟩) | (with_reducible exact ⟨bv0, bv1, bv2, bw0, bw1, bw2⟩) | (with_reducible exact ⟨av0, av1, av2, aw0, aw1, aw2⟩) | (exact ⟨v0, v1, v2, w0, w1, w2⟩)) (first | (go_at_call_of 37 (Value.bool s4); refine (hc8 s4 p4 l4 c4 q4 k4 d4 s1 p1 l1 c1 q1 k1 d1 _ r4 m5).mono ?_; rintro e wz ⟨rfl, gz⟩; have zv0 := kkeep gz dv0; have zv1 := kkeep gz dv1; have zv2 := kkeep gz dv2; have zw0 := kkeep gz dw0; have zw1 := kkeep gz dw1; have zw2 := kkeep gz dw2; have zz := Kp.trans (Kp.trans (Kp.trans za gb) gd) gz) | (go_at_call 38; refine (hsb 1 (by decide) h2 s2 p2 l2 c2 q2 k2 d2 s3 p3 l3 c3 q3 k3 d3 _ m4 r3).mono ?_; rintro e wd ⟨s4, p4, l4, c4, q4, k4, d4, rfl, r4, gd⟩; have m5 := kR1 _ _ _ _ _ _ _ _ _ _ _ gd m3; have dv0 := kkeep gd bv0; have dv1 := kkeep gd bv1; have dv2 := kkeep gd bv2; have dw0 := kkeep gd bw0; have dw1 := kkeep gd bw1; have dw2 := kkeep gd bw2) | (go_at_call 39; refine (hi1 _).mono ?_; rintro e wb ⟨s3, p3, l3, c3, q3, k3, d3, rfl, r3, gb⟩; have m3 := kR1 _ _ _ _ _ _ _ _ _ _ _ gb m1; have m4 := kR2 _ _ _ _ _ _ _ _ _ _ gb m2; have bv0 := kkeep gb av0; have bv1 := kkeep gb av1; have bv2 := kkeep gb av2; have bw0 := kkeep gb aw0; have bw1 := kkeep gb aw1; have bw2 := kkeep gb aw2) | (go_at_call_of 37 (Value.bool s2); refine (hc9 s1 p1 l1 c1 q1 k1 d1 s2 p2 l2 c2 q2 k2 d2 _ (kR1 _ _ _ _ _ _ _ _ _ _ _ (Kp.drew (Kp.refl _)) r1) (kR2 _ _ _ _ _ _ _ _ _ _ (Kp.drew (Kp.refl _)) r2)).mono ?_; rintro e wa ⟨rfl, ga⟩; have za := Kp.trans (Kp.drew (Kp.refl _)) ga; have m1 := kR1 _ _ _ _ _ _ _ _ _ _ _ za r1; have m2 := kR2 _ _ _ _ _ _ _ _ _ _ za r2; have av0 := kkeep za v0; have av1 := kkeep za v1; have av2 := kkeep za v2; have aw0 := kkeep za w0; have aw1 := kkeep za w1; have aw2 := kkeep za w2))
                  go_wp2
                  exact ⟨⟨Or.inr (Or.inr (by first | rfl | go_num)), Kp.trans gr2 zz⟩, by simp [intOf]⟩
                · rw [hz] at hc9
                  clear hz
                  go_region_held3 (fun w' => w'.cell? ⟨bv, 0, none⟩ = some (.bool s1) ∧ w'.cell? ⟨bv, 1, none⟩ = some (.slice p1 l1 c1) ∧ w'.cell? ⟨bv, 2, none⟩ = some (.slice q1 k1 d1) ∧ w'.cell? ⟨bw, 0, none⟩ = some (.bool s2) ∧ w'.cell? ⟨bw, 1, none⟩ = some (.slice p2 l2 c2) ∧ w'.cell? ⟨bw, 2, none⟩ = some (.slice q2 k2 d2)) (first | (with_reducible exact ⟨zv0, zv1, zv2, zw0, zw1, zw2⟩) | (with_reducible exact ⟨dv0, dv1, dv2, dw0, dw1, dw2⟩) | (with_reducible exact ⟨bv0, bv1, bv2, bw0, bw1, bw2⟩) | (with_reducible exact ⟨av0, av1, av2, aw0, aw1, aw2⟩) | (exact ⟨v0, v1, v2, w0, w1, w2⟩)) (first | (go_at_call_of 37 (Value.bool s4); refine (hc8 s4 p4 l4 c4 q4 k4 d4 s1 p1 l1 c1 q1 k1 d1 _ r4 m5).mono ?_; rintro e wz ⟨rfl, gz⟩; have zv0 := kkeep gz dv0; have zv1 := kkeep gz dv1; have zv2 := kkeep gz dv2; have zw0 := kkeep gz dw0; have zw1 := kkeep gz dw1; have zw2 := kkeep gz dw2; have zz := Kp.trans (Kp.trans (Kp.trans za gb) gd) gz) | (go_at_call 38; refine (hsb 1 (by decide) h2 s2 p2 l2 c2 q2 k2 d2 s3 p3 l3 c3 q3 k3 d3 _ m4 r3).mono ?_; rintro e wd ⟨s4, p4, l4, c4, q4, k4, d4, rfl, r4, gd⟩; have m5 := kR1 _ _ _ _ _ _ _ _ _ _ _ gd m3; have dv0 := kkeep gd bv0; have dv1 := kkeep gd bv1; have dv2 := kkeep gd bv2; have dw0 := kkeep gd bw0; have dw1 := kkeep gd bw1; have dw2 := kkeep gd bw2) | (go_at_call 39; refine (hi1 _).mono ?_; rintro e wb ⟨s3, p3, l3, c3, q3, k3, d3, rfl, r3, gb⟩; have m3 := kR1 _ _ _ _ _ _ _ _ _ _ _ gb m1; have m4 := kR2 _ _ _ _ _ _ _ _ _ _ gb m2; have bv0 := kkeep gb av0; have bv1 := kkeep gb av1; have bv2 := kkeep gb av2; have bw0 := kkeep gb aw0; have bw1 := kkeep gb aw1; have bw2 := kkeep gb aw2) | (go_at_call_of 37 (Value.bool s2); refine (hc9 s1 p1 l1 c1 q1 k1 d1 s2 p2 l2 c2 q2 k2 d2 _ (kR1 _ _ _ _ _ _ _ _ _ _ _ (Kp.drew (Kp.refl _)) r1) (kR2 _ _ _ _ _ _ _ _ _ _ (Kp.drew (Kp.refl _)) r2)).mono ?_; rintro e wa ⟨rfl, ga⟩; have za := Kp.trans (Kp.drew (Kp.refl _)) ga; have m1 := kR1 _ _ _ _ _ _ _ _ _ _ _ za r1; have m2 := kR2 _ _ _ _ _ _ _ _ _ _ za r2; have av0 := kkeep za v0; have av1 := kkeep za v1; have av2 := kkeep za v2; have aw0 := kkeep za w0; have aw1 := kkeep za w1; have aw2 := kkeep za w2))
                  go_wp2
                  exact ⟨⟨Or.inr (Or.inr (by first | rfl | go_num)), Kp.trans gr2 zz⟩, by simp [intOf]⟩
              · have j1 : ((k : Int) == 1) = false := by simp; omega
                refine Fq.wp_region_grow (by kernel_rfl) (by kernel_rfl) (fun ι _ G hG hall => ?_)
                repeat (go_big_quiet_step (fail))
                refine wpQuiet_nil ?_
                rintro _ ⟨nq, rfl⟩
                have gq : Kp W3 (G nq) := hG nq
                clear hall hG
                go_wp2
                exact ⟨⟨Or.inr (Or.inr (by first | rfl | go_num)), Kp.trans gr2 gq⟩, by simp [intOf]⟩
        · go_wp2
          exact ⟨⟨k + 1, by omega, by go_num, Kp.trans gr8 gr2⟩, by simp [intOf]; omega⟩
    · have i1 : ¬ ((k : Int) < 6) := by omega
      go_wp2_with (first | (go_at_call 10; refine (hlv _ hTW).mono ?_; rintro e wx ⟨rfl, gx⟩))
      exact bodyPost_ret (v := .bool true) (by simp [results, Tryz.results7, go_sem]) rfl ⟨rfl, (Kp.trans (Kp.trans kW gr) gx)⟩
end Go.Proofs.YthdnajcgdngmcaaGreatDoor
namespace Go.Proofs.YthdnajcgdngmcaaGreatDoor
open Go.RowKit
set_option maxRecDepth 20000 in
set_option maxHeartbeats 400000 in
theorem finA_ (X Q E : Int) (Z : Bool) (f1 : X / 4503599627370496 = Q) (f2 : bits BinOp.and IntKind.u64 Q 2047 = E) (t : (E != 2047) = Z) (w : World) : Calls Tryz.prog 34 #[.int .u64 X] w fun e w' => e = .returned (.bool Z) ∧ w' = w := by
  cases Z
  all_goals (
    go_enter Tryz.func34, Tryz.ntmps34
    go_wp2
    exact bodyPost_ret (v := .bool _) (by simp [results, Tryz.results34, go_sem] <;> simpa using t) rfl ⟨rfl, rfl⟩)
theorem fin_ (n : Bool) (m : Nat) (hm : m < 9223372036854775808) (w : World) : Calls Tryz.prog 34 #[.int .u64 ((Fq.wD n m : Nat) : Int)] w fun e w' => e = .returned (.bool (decide (m < 9218868437227405312))) ∧ w' = w := by
  obtain ⟨X, hX⟩ : ∃ X, X = Fq.wD n m := ⟨_, rfl⟩
  obtain ⟨Q, hQ⟩ : ∃ Q, Q = X / 4503599627370496 := ⟨_, rfl⟩
  have hX9 : X < 18446744073709551616 := by rw [hX]; unfold Fq.wD; split <;> omega
  have e1 : Q % 2048 = m / 4503599627370496 := by rw [hQ, hX]; unfold Fq.wD; split <;> omega
  have f2 : bits BinOp.and IntKind.u64 (Q : Int) 2047 = ((m / 4503599627370496 : Nat) : Int) := by
    have h := u64_and_nat Q 2047 (by omega) (by decide)
    rw [show (2047 : Nat) = 2 ^ 11 - 1 from by decide, Nat.and_two_pow_sub_one_eq_mod, show (2 : Nat) ^ 11 = 2048 from by decide, e1] at h
    exact h
  rw [← hX]
  refine finA_ _ _ _ _ (by rw [hQ]; exact (Int.natCast_ediv _ _).symm) f2 ?_ w
  by_cases c : m < 9218868437227405312
  · rw [decide_eq_true c]; simp; omega
  · rw [decide_eq_false c]; simp; omega
end Go.Proofs.YthdnajcgdngmcaaGreatDoor
namespace Go.Proofs.YthdnajcgdngmcaaGreatDoor
open Go.RowKit
/-- what a ratio's parts tell of a number -/
def RF (s : Bool) (a b : Nat) (n : Bool) (m : Nat) : Prop := ∀ K : Nat, K = 1074 → b ≠ 0 ∧ a * 2 ^ K = Fq.vV Ieee.double m * b ∧ Iv n m = (if s then -((Fq.vV Ieee.double m : Nat) : Int) else ((Fq.vV Ieee.double m : Nat) : Int)) ∧ blen a ≤ 1500 ∧ blen b ≤ 1500
/-- a ratio that is the number n m, with rows of its own from 'base' on -/
def RP (base : Nat) (w : World) (s : Bool) (p : Option Addr) (l c : Nat) (q : Option Addr) (k d : Nat) (n : Bool) (m : Nat) : Prop := ∃ a b, Own w base (.slice p l c) (dig a) ∧ Own w base (.slice q k d) (dig b) ∧ RF s a b n m
theorem RP.kp {base : Nat} {w w' : World} {s : Bool} {p : Option Addr} {l c : Nat} {q : Option Addr} {k d : Nat} {n : Bool} {m : Nat} (h : RP base w s p l c q k d n m) (g : Kp w w') : RP base w' s p l c q k d n m := by
  obtain ⟨a, b, h1, h2, h3⟩ := h
  exact ⟨a, b, h1.kp g, h2.kp g, h3⟩
theorem RP.mono {base base' : Nat} {w : World} {s : Bool} {p : Option Addr} {l c : Nat} {q : Option Addr} {k d : Nat} {n : Bool} {m : Nat} (h : RP base w s p l c q k d n m) (g : base' ≤ base) : RP base' w s p l c q k d n m := by
  obtain ⟨a, b, h1, h2, h3⟩ := h
  exact ⟨a, b, h1.mono g, h2.mono g, h3⟩
theorem RP.set {base : Nat} {w : World} {s : Bool} {p : Option Addr} {l c : Nat} {q : Option Addr} {k d : Nat} {n : Bool} {m : Nat} (h : RP base w s p l c q k d n m) {x : Addr} (hx : x.block < base) (u : Value) : RP base (w.setCell x u) s p l c q k d n m := by
  obtain ⟨a, b, h1, h2, h3⟩ := h
  exact ⟨a, b, h1.setOther hx u, h2.setOther hx u, h3⟩
end Go.Proofs.YthdnajcgdngmcaaGreatDoor
namespace Go.Proofs.YthdnajcgdngmcaaGreatDoor
open Go.RowKit
theorem dig_one6 : dig 1 = [1] := by decide +kernel
end Go.Proofs.YthdnajcgdngmcaaGreatDoor
namespace Go.Proofs.YthdnajcgdngmcaaGreatDoor
open Go.RowKit
def fN (n : Bool) (m : Nat) : Bool := if m = 9218868437227405312 then false else n
end Go.Proofs.YthdnajcgdngmcaaGreatDoor
namespace Go.Proofs.YthdnajcgdngmcaaGreatDoor
open Go.RowKit
theorem cmI_scale (x y k : Int) (hk : 0 < k) : cmI (x * k) (y * k) = cmI x y := by
  unfold cmI
  have e1 : x * k < y * k ↔ x < y := ⟨fun h => Int.lt_of_mul_lt_mul_right h (Int.le_of_lt hk), fun h => Int.mul_lt_mul_of_pos_right h hk⟩
  have e2 : y * k < x * k ↔ y < x := ⟨fun h => Int.lt_of_mul_lt_mul_right h (Int.le_of_lt hk), fun h => Int.mul_lt_mul_of_pos_right h hk⟩
  simp only [e1, e2]
theorem frac_ratio (x D a b : Nat) (hD : D ≠ 0) (hF : FracOf x D 0 a b) : a * D = x * b := by
  have hb := hF.1
  by_cases c0 : x = 0
  · rw [hF.2.1.2 c0, c0, Nat.zero_mul, Nat.zero_mul]
  · have hfl : ∀ t : Nat, a * 2 ^ t / b = x * 2 ^ t / D := fun t => by
      have h := hF.2.2.1 (-1) (blen (a * 2 ^ t / b) + blen (x * 2 ^ t / D)) (t : Int) c0
      unfold rV at h
      rw [show ((t : Int)).toNat = t from by omega, show (-(t : Int)).toNat = 0 from by omega, show ((t : Int) + 0).toNat = t from by omega, show (-((t : Int) + 0)).toNat = 0 from by omega, Nat.pow_zero, Nat.mul_one, Nat.mul_one, rU_floor _ _ _ (by omega), rU_floor _ _ _ (by omega)] at h
      exact h
    obtain ⟨t, ht⟩ : ∃ t, b * D < 2 ^ t := ⟨b * D, Nat.lt_two_pow_self⟩
    have h := hfl t
    obtain ⟨f, hf⟩ : ∃ f, f = a * 2 ^ t / b := ⟨_, rfl⟩
    have f1 : f * b ≤ a * 2 ^ t := by rw [hf]; exact Nat.div_mul_le_self _ _
    have f2 : a * 2 ^ t < (f + 1) * b := by rw [hf]; exact Nat.lt_mul_of_div_lt (Nat.lt_succ_self _) (by omega)
    have f3 : f * D ≤ x * 2 ^ t := by rw [hf, h]; exact Nat.div_mul_le_self _ _
    have f4 : x * 2 ^ t < (f + 1) * D := by rw [hf, h]; exact Nat.lt_mul_of_div_lt (Nat.lt_succ_self _) (by omega)
    have g1 := Nat.mul_le_mul_right D f1
    have g2 := Nat.mul_lt_mul_of_pos_right f2 (show 0 < D by omega)
    have g3 := Nat.mul_le_mul_right b f3
    have g4 := Nat.mul_lt_mul_of_pos_right f4 (show 0 < b by omega)
    rw [show f * b * D = f * (b * D) from Nat.mul_assoc _ _ _, show a * 2 ^ t * D = a * D * 2 ^ t from Nat.mul_right_comm _ _ _] at g1
    rw [show (f + 1) * b * D = f * (b * D) + b * D from by rw [Nat.mul_assoc, Nat.add_mul, Nat.one_mul], show a * 2 ^ t * D = a * D * 2 ^ t from Nat.mul_right_comm _ _ _] at g2
    rw [show f * D * b = f * (b * D) from by rw [Nat.mul_assoc, Nat.mul_comm D b], show x * 2 ^ t * b = x * b * 2 ^ t from Nat.mul_right_comm _ _ _] at g3
    rw [show (f + 1) * D * b = f * (b * D) + b * D from by rw [Nat.mul_assoc, Nat.mul_comm D b, Nat.add_mul, Nat.one_mul], show x * 2 ^ t * b = x * b * 2 ^ t from Nat.mul_right_comm _ _ _] at g4
    rcases Nat.lt_trichotomy (a * D) (x * b) with c | c | c
    · exfalso
      have h5 := Nat.mul_le_mul_right (2 ^ t) (show a * D + 1 ≤ x * b from c)
      rw [Nat.add_mul, Nat.one_mul] at h5
      omega
    · exact c
    · exfalso
      have h5 := Nat.mul_le_mul_right (2 ^ t) (show x * b + 1 ≤ a * D from c)
      rw [Nat.add_mul, Nat.one_mul] at h5
      omega
set_option linter.unusedVariables false
/-- a ratio's parts tell V by C -/
def XF (s : Bool) (a b : Nat) (V : Int) (C N : Nat) : Prop := b ≠ 0 ∧ C ≠ 0 ∧ rvI s a * (C : Int) = V * (b : Int) ∧ blen a ≤ N ∧ blen b ≤ N
/-- a ratio that is V by C, with rows of its own from 'base' on, of no more than N bits -/
def XP (base : Nat) (w : World) (s : Bool) (p : Option Addr) (l c : Nat) (q : Option Addr) (k d : Nat) (V : Int) (C N : Nat) : Prop := ∃ a b, Own w base (.slice p l c) (dig a) ∧ Own w base (.slice q k d) (dig b) ∧ XF s a b V C N
theorem XP.kp {base : Nat} {w : World} {s : Bool} {p : Option Addr} {l c : Nat} {q : Option Addr} {k d : Nat} {V : Int} {C N : Nat} {w' : World} (h : XP base w s p l c q k d V C N) (g : Kp w w') : XP base w' s p l c q k d V C N := by
  obtain ⟨a, b, h1, h2, h3⟩ := h
  exact ⟨a, b, h1.kp g, h2.kp g, h3⟩
theorem XP.mono {base : Nat} {w : World} {s : Bool} {p : Option Addr} {l c : Nat} {q : Option Addr} {k d : Nat} {V : Int} {C N : Nat} {base' : Nat} (h : XP base w s p l c q k d V C N) (g : base' ≤ base) : XP base' w s p l c q k d V C N := by
  obtain ⟨a, b, h1, h2, h3⟩ := h
  exact ⟨a, b, h1.mono g, h2.mono g, h3⟩
theorem XP.set {base : Nat} {w : World} {s : Bool} {p : Option Addr} {l c : Nat} {q : Option Addr} {k d : Nat} {V : Int} {C N : Nat} (h : XP base w s p l c q k d V C N) {x : Addr} (hx : x.block < base) (u : Value) : XP base (w.setCell x u) s p l c q k d V C N := by
  obtain ⟨a, b, h1, h2, h3⟩ := h
  exact ⟨a, b, h1.setOther hx u, h2.setOther hx u, h3⟩
/-- the same ratio told otherwise -/
theorem XP.as {base : Nat} {w : World} {s : Bool} {p : Option Addr} {l c : Nat} {q : Option Addr} {k d : Nat} {V : Int} {C N : Nat} (h : XP base w s p l c q k d V C N) (V2 : Int) (C2 N2 : Nat) (hc : C2 ≠ 0) (e : V * (C2 : Int) = V2 * (C : Int)) (hN : N ≤ N2) : XP base w s p l c q k d V2 C2 N2 := by
  obtain ⟨a, b, h1, h2, f1, f2, f3, f4, f5⟩ := h
  refine ⟨a, b, h1, h2, f1, hc, ?_, by omega, by omega⟩
  refine Int.eq_of_mul_eq_mul_right (show (C : Int) ≠ 0 by omega) ?_
  have e1 : rvI s a * (C2 : Int) * (C : Int) = rvI s a * (C : Int) * (C2 : Int) := by ac_rfl
  have e2 : V2 * (b : Int) * (C : Int) = V2 * (C : Int) * (b : Int) := by ac_rfl
  rw [e1, f3, e2, ← e]; ac_rfl
theorem RP.xp {base : Nat} {w : World} {s : Bool} {p : Option Addr} {l c : Nat} {q : Option Addr} {k d : Nat} {n : Bool} {m : Nat} (h : RP base w s p l c q k d n m) (K : Nat) (hK : K = 1074) : XP base w s p l c q k d (Iv n m) (2 ^ K) 1500 := by
  obtain ⟨a, b, h1, h2, h3⟩ := h
  obtain ⟨f1, f2, f3, f4, f5⟩ := h3 K hK
  refine ⟨a, b, h1, h2, f1, by have := Nat.two_pow_pos K; omega, ?_, f4, f5⟩
  have e : (a : Int) * ((2 ^ K : Nat) : Int) = ((Fq.vV Ieee.double m : Nat) : Int) * (b : Int) := by rw [← Int.natCast_mul, f2, Int.natCast_mul]
  rw [f3]; unfold rvI
  cases s
  · rw [if_neg (by decide), if_neg (by decide)]; exact e
  · rw [if_pos rfl, if_pos rfl, Int.neg_mul, e, Int.neg_mul]
theorem rvI_mul (s : Bool) (a b : Nat) : rvI s (a * b) = rvI s a * (b : Int) := by
  unfold rvI; cases s
  · rw [if_neg (by decide), if_neg (by decide), Int.natCast_mul]
  · rw [if_pos rfl, if_pos rfl, Int.natCast_mul, Int.neg_mul]
theorem frac_x (x D a' b' : Nat) (ng neg : Bool) (hD : D ≠ 0) (hF : FracOf x D 0 a' b') (hn : x ≠ 0 → ng = neg) : rvI ng a' * (D : Int) = rvI neg x * (b' : Int) := by
  have h := frac_ratio x D a' b' hD hF
  by_cases z : x = 0
  · have z' := hF.2.1.2 z
    rw [z, z']; unfold rvI; simp
  · rw [hn z, ← rvI_mul, ← rvI_mul, h]
theorem blen_mulX (u v N1 N2 : Nat) (h1 : blen u ≤ N1) (h2 : blen v ≤ N2) : blen (u * v) ≤ N1 + N2 := by
  rw [blen_le_iff, Nat.pow_add]
  exact Nat.mul_lt_mul'' ((blen_le_iff u N1).1 h1) ((blen_le_iff v N2).1 h2)
theorem xcmp_ (B1 B2 : Nat) (V V' : Int) (C C' N N' : Nat) (hN : N ≤ 200000) (hN' : N' ≤ 200000) (s : Bool) (p : Option Addr) (l c : Nat) (q : Option Addr) (k d : Nat) (s2 : Bool) (p2 : Option Addr) (l2 c2 : Nat) (q2 : Option Addr) (k2 d2 : Nat) (w : World) (h1 : XP B1 w s p l c q k d V C N) (h2 : XP B2 w s2 p2 l2 c2 q2 k2 d2 V' C' N') : Calls Tryz.prog 37 #[.agg #[.bool s, .slice p l c, .slice q k d], .agg #[.bool s2, .slice p2 l2 c2, .slice q2 k2 d2]] w fun e w' => e = .returned (.int .i64 (cmI (V * (C' : Int)) (V' * (C : Int)))) ∧ Kp w w' := by
  obtain ⟨a, b, o1, o2, zb, zc, i1, j1, j2⟩ := h1
  obtain ⟨x, y, o3, o4, zy, zc', i2, j3, j4⟩ := h2
  have h := rcmp6_ s p l c q k d s2 p2 l2 c2 q2 k2 d2 a b x y B1 B2 w o1 o2 o3 o4 zb zy (by omega) (by omega) (by omega) (by omega)
  have e : cmI (rvI s a * (y : Int)) (rvI s2 x * (b : Int)) = cmI (V * (C' : Int)) (V' * (C : Int)) := by
    have pk : (0 : Int) < (C : Int) * (C' : Int) := Int.mul_pos (by omega) (by omega)
    have pb : (0 : Int) < (b : Int) * (y : Int) := Int.mul_pos (by omega) (by omega)
    rw [← cmI_scale _ _ _ pk, ← cmI_scale (V * (C' : Int)) (V' * (C : Int)) _ pb]
    have e1 : rvI s a * (y : Int) * ((C : Int) * (C' : Int)) = rvI s a * (C : Int) * ((y : Int) * (C' : Int)) := by ac_rfl
    have e2 : rvI s2 x * (b : Int) * ((C : Int) * (C' : Int)) = rvI s2 x * (C' : Int) * ((b : Int) * (C : Int)) := by ac_rfl
    rw [e1, e2, i1, i2]
    have e3 : V * (b : Int) * ((y : Int) * (C' : Int)) = V * (C' : Int) * ((b : Int) * (y : Int)) := by ac_rfl
    have e4 : V' * (y : Int) * ((b : Int) * (C : Int)) = V' * (C : Int) * ((b : Int) * (y : Int)) := by ac_rfl
    rw [e3, e4]
  rw [e] at h
  exact h
theorem XF.add (s s' ng : Bool) (a1 a2 b1 b2 a' b' : Nat) (V V' : Int) (C C' N N' M : Nat) (h1 : XF s a1 a2 V C N) (h2 : XF s' b1 b2 V' C' N') (hb : b' ≠ 0) (h : rvI ng a' * ((a2 : Int) * (b2 : Int)) = (rvI s a1 * (b2 : Int) + rvI s' b1 * (a2 : Int)) * (b' : Int)) (m1 : blen a' ≤ M) (m2 : blen b' ≤ M) : XF ng a' b' (V * (C' : Int) + V' * (C : Int)) (C * C') M := by
  obtain ⟨za, zc, i1, -, -⟩ := h1
  obtain ⟨zb, zc', i2, -, -⟩ := h2
  refine ⟨hb, Nat.mul_ne_zero zc zc', ?_, m1, m2⟩
  have pn : (a2 : Int) * (b2 : Int) ≠ 0 := by have : (0 : Int) < (a2 : Int) * (b2 : Int) := Int.mul_pos (by omega) (by omega); omega
  refine Int.eq_of_mul_eq_mul_right pn ?_
  rw [Int.natCast_mul]
  have e1 : rvI ng a' * ((C : Int) * (C' : Int)) * ((a2 : Int) * (b2 : Int)) = rvI ng a' * ((a2 : Int) * (b2 : Int)) * ((C : Int) * (C' : Int)) := by ac_rfl
  rw [e1, h]
  simp only [Int.add_mul]
  have e2 : rvI s a1 * (b2 : Int) * (b' : Int) * ((C : Int) * (C' : Int)) = rvI s a1 * (C : Int) * ((b2 : Int) * (b' : Int) * (C' : Int)) := by ac_rfl
  have e3 : rvI s' b1 * (a2 : Int) * (b' : Int) * ((C : Int) * (C' : Int)) = rvI s' b1 * (C' : Int) * ((a2 : Int) * (b' : Int) * (C : Int)) := by ac_rfl
  rw [e2, e3, i1, i2]
  have e4 : V * (a2 : Int) * ((b2 : Int) * (b' : Int) * (C' : Int)) = V * (C' : Int) * (b' : Int) * ((a2 : Int) * (b2 : Int)) := by ac_rfl
  have e5 : V' * (b2 : Int) * ((a2 : Int) * (b' : Int) * (C : Int)) = V' * (C : Int) * (b' : Int) * ((a2 : Int) * (b2 : Int)) := by ac_rfl
  rw [e4, e5]
theorem XF.mul (s s' ng : Bool) (a1 a2 b1 b2 a' b' : Nat) (V V' : Int) (C C' N N' M : Nat) (h1 : XF s a1 a2 V C N) (h2 : XF s' b1 b2 V' C' N') (hb : b' ≠ 0) (h : rvI ng a' * ((a2 : Int) * (b2 : Int)) = rvI s a1 * rvI s' b1 * (b' : Int)) (m1 : blen a' ≤ M) (m2 : blen b' ≤ M) : XF ng a' b' (V * V') (C * C') M := by
  obtain ⟨za, zc, i1, -, -⟩ := h1
  obtain ⟨zb, zc', i2, -, -⟩ := h2
  refine ⟨hb, Nat.mul_ne_zero zc zc', ?_, m1, m2⟩
  have pn : (a2 : Int) * (b2 : Int) ≠ 0 := by have : (0 : Int) < (a2 : Int) * (b2 : Int) := Int.mul_pos (by omega) (by omega); omega
  refine Int.eq_of_mul_eq_mul_right pn ?_
  rw [Int.natCast_mul]
  have e1 : rvI ng a' * ((C : Int) * (C' : Int)) * ((a2 : Int) * (b2 : Int)) = rvI ng a' * ((a2 : Int) * (b2 : Int)) * ((C : Int) * (C' : Int)) := by ac_rfl
  have e2 : rvI s a1 * rvI s' b1 * (b' : Int) * ((C : Int) * (C' : Int)) = rvI s a1 * (C : Int) * (rvI s' b1 * (C' : Int)) * (b' : Int) := by ac_rfl
  rw [e1, h, e2, i1, i2]; ac_rfl
/-- a quotient: its denominator is a number that is not 0, told without its sign -/
theorem XF.quo (s s' ng : Bool) (a1 a2 b1 b2 a' b' : Nat) (V : Int) (U : Nat) (t : Bool) (C C' N N' M : Nat) (h1 : XF s a1 a2 V C N) (h2 : XF s' b1 b2 (rvI t U) C' N') (hU : U ≠ 0) (hb : b' ≠ 0) (h : rvI ng a' * ((a2 : Int) * (b1 : Int)) = rvI (s ^^ s') (a1 * b2) * (b' : Int)) (m1 : blen a' ≤ M) (m2 : blen b' ≤ M) : XF ng a' b' (rvI t 1 * V * (C' : Int)) (C * U) M := by
  obtain ⟨za, zc, i1, -, -⟩ := h1
  obtain ⟨zb, zc', i2, -, -⟩ := h2
  have hU' : (0 : Int) < (U : Int) := by omega
  have hC' : (0 : Int) < (C' : Int) := by omega
  have hb2 : (0 : Int) < (b2 : Int) := by omega
  have q1 : (0 : Int) < (U : Int) * (b2 : Int) := Int.mul_pos hU' hb2
  have key : s' = t ∧ (b1 : Int) * (C' : Int) = (U : Int) * (b2 : Int) := by
    have q2 : (0 : Int) ≤ (b1 : Int) * (C' : Int) := Int.mul_nonneg (by omega) (by omega)
    unfold rvI at i2
    cases s' <;> cases t <;> simp [Int.neg_mul] at i2 ⊢ <;> omega
  obtain ⟨rfl, i3⟩ := key
  have zb1 : (0 : Int) < (b1 : Int) := by
    rcases Nat.eq_zero_or_pos b1 with z | z
    · rw [z] at i3; simp at i3; omega
    · omega
  refine ⟨hb, Nat.mul_ne_zero zc hU, ?_, m1, m2⟩
  have pn : (a2 : Int) * (b1 : Int) ≠ 0 := by have : (0 : Int) < (a2 : Int) * (b1 : Int) := Int.mul_pos (by omega) (by omega); omega
  refine Int.eq_of_mul_eq_mul_right pn ?_
  refine Int.eq_of_mul_eq_mul_right (show (b2 : Int) ≠ 0 by omega) ?_
  rw [Int.natCast_mul]
  have e0 : rvI (s ^^ s') (a1 * b2) = rvI s' 1 * (rvI s a1 * (b2 : Int)) := by unfold rvI; cases s <;> cases s' <;> simp [Int.neg_mul]
  have e1 : rvI ng a' * ((C : Int) * (U : Int)) * ((a2 : Int) * (b1 : Int)) * (b2 : Int) = rvI ng a' * ((a2 : Int) * (b1 : Int)) * ((C : Int) * ((U : Int) * (b2 : Int))) := by ac_rfl
  rw [e1, h, ← i3, e0]
  have e2 : rvI s' 1 * (rvI s a1 * (b2 : Int)) * (b' : Int) * ((C : Int) * ((b1 : Int) * (C' : Int))) = (rvI s a1 * (C : Int)) * (rvI s' 1 * (b2 : Int) * (b' : Int) * (b1 : Int) * (C' : Int)) := by ac_rfl
  rw [e2, i1]; ac_rfl
end Go.Proofs.YthdnajcgdngmcaaGreatDoor
namespace Go.Proofs.YthdnajcgdngmcaaGreatDoor
open Go.RowKit
/-- what Frac answers, written out: in lowest terms as far as twos go -/
def FracX (a b : Nat) (exp : Int) (a' b' : Nat) : Prop := FracOf a b exp a' b' ∧ (a = 0 → a' = 0 ∧ b' = 1) ∧ (a ≠ 0 → ∃ a1 b1 ka kb x y : Nat, a1 % 2 = 1 ∧ b1 % 2 = 1 ∧ a = a1 * 2 ^ ka ∧ b = b1 * 2 ^ kb ∧ a' = a1 * 2 ^ x ∧ b' = b1 * 2 ^ y ∧ (x = 0 ∨ y = 0) ∧ (x : Int) - (y : Int) = exp + ka - kb)
theorem fracX_of (a b a1 b1 ka kb x y : Nat) (exp ex : Int) (h1 : a1 % 2 = 1) (h2 : b1 % 2 = 1) (ha : a = a1 * 2 ^ ka) (hb : b = b1 * 2 ^ kb) (hka : ka ≤ blen a) (hkb : kb ≤ blen b) (hex : ex = exp + ka - kb) (hx : x = ex.toNat) (hy : y = (-ex).toNat) : FracX a b exp (a1 * 2 ^ x) (b1 * 2 ^ y) := by
  refine ⟨frac_of a b a1 b1 ka kb x y exp ex (by omega) (by omega) ha hb hka hkb hex hx hy, fun h => ?_, fun _ => ⟨a1, b1, ka, kb, x, y, h1, h2, ha, hb, rfl, rfl, by omega, by omega⟩⟩
  have hp := Nat.two_pow_pos ka
  rw [ha] at h
  rcases Nat.mul_eq_zero.1 h with z | z
  · omega
  · omega
set_option maxRecDepth 20000 in
set_option maxHeartbeats 1000000 in
theorem fracX_ (neg : Bool) (vn vd : Value) (Ln Ld : List Int) (exp : Int) (w : World) (hn : Ls w vn Ln) (hd : Ls w vd Ld) (hwn : Wd Ln) (hwd : Wd Ld) (ln : Ln.length ≤ 32768) (ld : Ld.length ≤ 32768) (hb : val Ld ≠ 0) (he : exp.natAbs ≤ 1048576) :
    Calls Tryz.prog 68 #[.bool neg, vn, vd, .int .i64 exp] w fun e w' => ∃ (vn' vd' : Value) (a' b' : Nat) (ng : Bool), e = .returned (.agg #[.bool ng, vn', vd']) ∧ Own w' w.heap.size vn' (dig a') ∧ Own w' w.heap.size vd' (dig b') ∧ (FracX (val Ln) (val Ld) exp a' b' ∧ (val Ln ≠ 0 → ng = neg)) ∧ Kp w w' := by
  obtain ⟨w0, hw0⟩ : ∃ w0, w0 = w.alloc (.cells #[.bool false, .slice none 0 0, .slice none 0 0] 49) := ⟨_, rfl⟩
  have hk0 : Kp w w0 := by rw [hw0]; exact (Kp.refl w).alloc _
  obtain ⟨a, ha⟩ : ∃ a, a = val Ln := ⟨_, rfl⟩
  obtain ⟨b, hb9⟩ : ∃ b, b = val Ld := ⟨_, rfl⟩
  have hc := normO vn Ln w0 (hn.kp hk0) hwn (by omega)
  have hc2 := fun w' (k : Kp w0 w') => normO vd Ld w' ((hd.kp hk0).kp k) hwd (by omega)
  have la : blen a ≤ 1048576 := by
    have := blen_len a Ln.length (by rw [ha, ← tl_len Ln hwn]; exact tl_le Ln)
    omega
  have lb : blen b ≤ 1048576 := by
    have := blen_len b Ld.length (by rw [hb9, ← tl_len Ld hwd]; exact tl_le Ld)
    omega
  rw [← ha] at hc
  rw [← hb9] at hc2 hb
  rw [← ha, ← hb9]
  have HLA : Hid (blen a ≤ 1048576 ∧ blen b ≤ 1048576 ∧ b ≠ 0 ∧ exp.natAbs ≤ 1048576) := ⟨la, lb, hb, he⟩
  have Hw0 : Hid (w0 = w.alloc (.cells #[.bool false, .slice none 0 0, .slice none 0 0] 49)) := hw0
  clear hk0 ha hb9 hn hd hwn hwd ln ld la lb hb he
  by_cases cz : a = 0
  · subst cz
    rw [dig_zero] at hc
    go_enter Tryz.func68, Tryz.ntmps68
    go_wp2_with fail
    rw [← hw0]
    refine hc.mono ?_; rintro e w1 ⟨v1, rfl, hO, hk⟩
    obtain ⟨p1, c1, rfl, _⟩ := hO.len
    have hc3 := hc2 w1 hk
    have K0 : Hid (Kp w0 w1) := hk
    clear hc hc2 hO hk hw0
    go_wp2_with fail
    refine hc3.mono ?_; rintro e w2 ⟨v2, rfl, hO, hk⟩
    replace K0 : Hid (Kp w0 w2) := K0.out.trans hk
    clear hc3 hO hk
    obtain ⟨w3, hw3⟩ : ∃ w3, w3 = w2.alloc (.cells #[.int .u32 1] 80) := ⟨_, rfl⟩
    obtain ⟨g3, hg3⟩ : ∃ g3, g3 = w2.heap.size := ⟨_, rfl⟩
    have O1 := own1 w2
    rw [← hw3, ← hg3] at O1
    have hsz := K0.out.size
    rw [← hg3] at hsz
    replace K0 : Hid (Kp w0 w3) := K0.out.trans (by rw [hw3]; exact (Kp.refl _).alloc _)
    have ON : Hid (Own w3 w0.heap.size (.slice none 0 0) (dig 0)) := by rw [dig_zero]; exact Own.nil _ _
    have OD : Hid (Own w3 w0.heap.size (.slice (some ⟨g3, 0, none⟩) 1 1) (dig 1)) := by
      rw [dig_one]
      exact O1.mono hsz
    have HFR : Hid (FracX 0 b exp 0 1) := ⟨⟨by decide, by simp, fun _ _ _ h => absurd rfl h, by rw [blen_zero]; omega, by have : blen 1 = 1 := blen_uniq 1 0 (by decide) (by decide); omega⟩, fun _ => ⟨rfl, rfl⟩, fun h => absurd rfl h⟩
    have HW3 : Hid (w2.alloc (.cells #[.int .u32 1] 80) = w3 ∧ w2.heap.size = g3) := ⟨hw3.symm, hg3.symm⟩
    clear O1 hsz hw3 hg3
    have hlt : w.heap.size < w0.heap.size := by rw [Hw0.out]; simp
    have k0 := kkeep K0.out (b := w.heap.size) (o := 0) (v := .bool false) (by rw [Hw0.out]; simp [go_sem])
    have z0 : w3.frozen? ⟨w.heap.size, 0, none⟩ = false := by rw [Below.frozen K0.out hlt, Hw0.out]; simp [go_sem]
    have k1 := kkeep K0.out (b := w.heap.size) (o := 1) (v := .slice none 0 0) (by rw [Hw0.out]; simp [go_sem])
    have z1 : w3.frozen? ⟨w.heap.size, 1, none⟩ = false := by rw [Below.frozen K0.out hlt, Hw0.out]; simp [go_sem]
    have k2 := kkeep K0.out (b := w.heap.size) (o := 2) (v := .slice none 0 0) (by rw [Hw0.out]; simp [go_sem])
    have z2 : w3.frozen? ⟨w.heap.size, 2, none⟩ = false := by rw [Below.frozen K0.out hlt, Hw0.out]; simp [go_sem]
    have hk9 : Kp w w0 := by rw [Hw0.out]; exact (Kp.refl w).alloc _
    have hk0 : Kp w w3 := hk9.trans K0.out
    have HZ : Hid (Own (((w3.setCell ⟨w.heap.size, 0, none⟩ (.bool false)).setCell ⟨w.heap.size, 1, none⟩ (.slice none 0 0)).setCell ⟨w.heap.size, 2, none⟩ (.slice (some ⟨g3, 0, none⟩) 1 1)) w.heap.size (.slice none 0 0) (dig (0)) ∧ Own (((w3.setCell ⟨w.heap.size, 0, none⟩ (.bool false)).setCell ⟨w.heap.size, 1, none⟩ (.slice none 0 0)).setCell ⟨w.heap.size, 2, none⟩ (.slice (some ⟨g3, 0, none⟩) 1 1)) w.heap.size (.slice (some ⟨g3, 0, none⟩) 1 1) (dig (1)) ∧ Kp w (((w3.setCell ⟨w.heap.size, 0, none⟩ (.bool false)).setCell ⟨w.heap.size, 1, none⟩ (.slice none 0 0)).setCell ⟨w.heap.size, 2, none⟩ (.slice (some ⟨g3, 0, none⟩) 1 1))) := ⟨((((ON.out.setOther hlt (.bool false)).setOther hlt (.slice none 0 0)).setOther hlt (.slice (some ⟨g3, 0, none⟩) 1 1))).mono (Nat.le_of_lt hlt), ((((OD.out.setOther hlt (.bool false)).setOther hlt (.slice none 0 0)).setOther hlt (.slice (some ⟨g3, 0, none⟩) 1 1))).mono (Nat.le_of_lt hlt), (((hk0.setCell (Nat.le_refl _) (.bool false)).setCell (Nat.le_refl _) (.slice none 0 0)).setCell (Nat.le_refl _) (.slice (some ⟨g3, 0, none⟩) 1 1))⟩
    clear hk0 hlt hk9
    obtain ⟨q1, q2⟩ := HW3.out
    subst q1
    subst q2
    clear HW3
    go_wp2
    exact bodyPost_ret (v := .agg #[.bool false, .slice none 0 0, .slice (some ⟨w2.heap.size, 0, none⟩) 1 1]) (by simp [results, Tryz.results68, go_sem] <;> simp [go_sem, *]) rfl ⟨_, _, 0, 1, false, rfl, HZ.out.1, HZ.out.2.1, ⟨HFR.out, fun h => absurd rfl h⟩, HZ.out.2.2⟩
  · have HA0 : Hid (a ≠ 0) := cz
    obtain ⟨a1, ho1, ea, da, hka⟩ := ctz_odd a cz
    obtain ⟨b1, ho2, eb, db, hkb⟩ := ctz_odd b HLA.out.2.2.1
    obtain ⟨ka, hka9⟩ : ∃ ka, ka = ctz a := ⟨_, rfl⟩
    obtain ⟨kb, hkb9⟩ : ∃ kb, kb = ctz b := ⟨_, rfl⟩
    rw [← hka9] at ea da hka
    rw [← hkb9] at eb db hkb
    obtain ⟨e1, he1⟩ : ∃ e1 : Int, e1 = exp + ka := ⟨_, rfl⟩
    obtain ⟨ex, hex⟩ : ∃ ex : Int, ex = e1 - kb := ⟨_, rfl⟩
    obtain ⟨x, hx⟩ : ∃ x, x = ex.toNat := ⟨_, rfl⟩
    obtain ⟨y, hy⟩ : ∃ y, y = (-ex).toNat := ⟨_, rfl⟩
    have hfr := fracX_of a b a1 b1 ka kb x y exp ex ho1 ho2 ea eb hka hkb (by rw [hex, he1]) hx hy
    have HFR : Hid (FracX a b exp (a1 * 2 ^ x) (b1 * 2 ^ y)) := hfr
    have hla := HLA.out
    have ba1 : blen a1 ≤ blen a := by rw [ea, blen_mul _ _ (by omega)]; omega
    have bb1 : blen b1 ≤ blen b := by rw [eb, blen_mul _ _ (by omega)]; omega
    have HB1 : Hid (blen a1 ≤ 16777216 ∧ blen b1 ≤ 16777216 ∧ x ≤ 16777216 ∧ y ≤ 16777216) := ⟨by omega, by omega, by omega, by omega⟩
    have g1 : wrap64 (exp + (ka : Int)) = e1 := by rw [← he1]; exact w64x _ (by omega) (by omega)
    have g2 : wrap64 (e1 - (kb : Int)) = ex := by rw [← hex]; exact w64x _ (by omega) (by omega)
    have HX : Hid (x = ex.toNat ∧ y = (-ex).toNat) := ⟨hx, hy⟩
    have HD : Hid (a / 2 ^ ka = a1 ∧ b / 2 ^ kb = b1 ∧ ka = ctz a ∧ kb = ctz b ∧ ka ≤ 1048576 ∧ kb ≤ 1048576) := ⟨da, db, hka9, hkb9, by omega, by omega⟩
    have hlz := dig_len_zero a
    obtain ⟨M, hM⟩ : ∃ M, M = (dig a).length := ⟨_, rfl⟩
    rw [← hM] at hlz
    have t0 : ¬ ((M : Int) = 0) := by have := mt hlz.1 cz; omega
    have HM : Hid (M = (dig a).length) := hM
    clear hfr hla ba1 bb1 ho1 ho2 ea da hka eb db hkb hka9 hkb9 he1 hex hx hy hlz hM cz
    go_enter Tryz.func68, Tryz.ntmps68
    go_wp2_with fail
    rw [← hw0]
    refine hc.mono ?_; rintro e w1 ⟨v1, rfl, hO, hk⟩
    obtain ⟨p1, c1, rfl, _⟩ := hO.len
    have OA : Hid (Own w1 w0.heap.size (.slice p1 (dig a).length c1) (dig a)) := hO
    rw [← HM.out] at OA ⊢
    have hc3 := hc2 w1 hk
    have K0 : Hid (Kp w0 w1) := hk
    clear hc hc2 hO hk hw0
    go_wp2_with fail
    refine hc3.mono ?_; rintro e w2 ⟨v2, rfl, hO, hk⟩
    have OB : Hid (Own w2 w0.heap.size v2 (dig b)) := hO.mono K0.out.size
    replace OA : Hid (Own w2 w0.heap.size (.slice p1 M c1) (dig a)) := OA.out.kp hk
    replace K0 : Hid (Kp w0 w2) := K0.out.trans hk
    clear hc3 hO hk
    have hc := zerosR (.slice p1 M c1) a w2 OA.out.ls (by have := HLA.out; omega)
    rw [← HD.out.2.2.1] at hc
    go_wp2_with fail
    refine hc.mono ?_; rintro e w' ⟨rfl, hw'⟩; obtain rfl := hw'.symm; clear hc hw'
    have hc := rightO (.slice p1 M c1) a ka w2 OA.out.ls (by have := HLA.out; omega) (by have := HD.out; omega)
    rw [HD.out.1] at hc
    go_wp2_with fail
    refine hc.mono ?_; rintro e w3 ⟨v3, bb, rfl, hO, hk⟩
    replace OA : Hid (Own w3 w0.heap.size v3 (dig a1)) := hO.mono K0.out.size
    replace OB : Hid (Own w3 w0.heap.size v2 (dig b)) := OB.out.kp hk
    replace K0 : Hid (Kp w0 w3) := K0.out.trans hk
    clear hc hO hk
    have hc := zerosR v2 b w3 OB.out.ls (by have := HLA.out; omega)
    rw [← HD.out.2.2.2.1] at hc
    go_wp2_with fail
    refine hc.mono ?_; rintro e w' ⟨rfl, hw'⟩; obtain rfl := hw'.symm; clear hc hw'
    have hc := rightO v2 b kb w3 OB.out.ls (by have := HLA.out; omega) (by have := HD.out; omega)
    rw [HD.out.2.1] at hc
    go_wp2_with fail
    refine hc.mono ?_; rintro e w4 ⟨v4, bb2, rfl, hO, hk⟩
    replace OB : Hid (Own w4 w0.heap.size v4 (dig b1)) := hO.mono K0.out.size
    replace OA : Hid (Own w4 w0.heap.size v3 (dig a1)) := OA.out.kp hk
    replace K0 : Hid (Kp w0 w4) := K0.out.trans hk
    clear hc hO hk
    by_cases cx : 0 < ex
    · have hx9 : ex = (x : Int) := by have := HX.out; omega
      have hc := leftO v3 a1 x w4 OA.out.ls HB1.out.1 HB1.out.2.2.1
      rw [← hx9] at hc
      have t1 : 0 < ex := cx
      have t2 : ¬ ex < 0 := by omega
      have HY0 : Hid (y = 0) := by have := HX.out; show _ = _; omega
      clear hx9 cx
      go_wp2_with fail
      try rw [g2]
      refine hc.mono ?_; rintro e w5 ⟨v5, rfl, hO, hk⟩
      have ON : Hid (Own w5 w0.heap.size v5 (dig (a1 * 2 ^ x))) := hO.mono K0.out.size
      have OD : Hid (Own w5 w0.heap.size v4 (dig (b1 * 2 ^ y))) := by rw [HY0.out, Nat.pow_zero, Nat.mul_one]; exact OB.out.kp hk
      replace K0 : Hid (Kp w0 w5) := K0.out.trans hk
      clear hc hO hk OA OB
      obtain ⟨pN, cN, hvN, _⟩ := ON.out.len
      obtain ⟨NN, hNN⟩ : ∃ NN, NN = (dig (a1 * 2 ^ x)).length := ⟨_, rfl⟩
      rw [← hNN] at hvN
      subst hvN
      clear hNN
      obtain ⟨pD, cD, hvD, _⟩ := OD.out.len
      obtain ⟨ND, hND⟩ : ∃ ND, ND = (dig (b1 * 2 ^ y)).length := ⟨_, rfl⟩
      rw [← hND] at hvD
      subst hvD
      clear hND
      have hlt : w.heap.size < w0.heap.size := by rw [Hw0.out]; simp
      have k0 := kkeep K0.out (b := w.heap.size) (o := 0) (v := .bool false) (by rw [Hw0.out]; simp [go_sem])
      have z0 : w5.frozen? ⟨w.heap.size, 0, none⟩ = false := by rw [Below.frozen K0.out hlt, Hw0.out]; simp [go_sem]
      have k1 := kkeep K0.out (b := w.heap.size) (o := 1) (v := .slice none 0 0) (by rw [Hw0.out]; simp [go_sem])
      have z1 : w5.frozen? ⟨w.heap.size, 1, none⟩ = false := by rw [Below.frozen K0.out hlt, Hw0.out]; simp [go_sem]
      have k2 := kkeep K0.out (b := w.heap.size) (o := 2) (v := .slice none 0 0) (by rw [Hw0.out]; simp [go_sem])
      have z2 : w5.frozen? ⟨w.heap.size, 2, none⟩ = false := by rw [Below.frozen K0.out hlt, Hw0.out]; simp [go_sem]
      have hk9 : Kp w w0 := by rw [Hw0.out]; exact (Kp.refl w).alloc _
      have hk0 : Kp w w5 := hk9.trans K0.out
      have HZ : Hid (Own (((w5.setCell ⟨w.heap.size, 0, none⟩ (.bool neg)).setCell ⟨w.heap.size, 1, none⟩ (.slice pN NN cN)).setCell ⟨w.heap.size, 2, none⟩ (.slice pD ND cD)) w.heap.size (.slice pN NN cN) (dig (a1 * 2 ^ x)) ∧ Own (((w5.setCell ⟨w.heap.size, 0, none⟩ (.bool neg)).setCell ⟨w.heap.size, 1, none⟩ (.slice pN NN cN)).setCell ⟨w.heap.size, 2, none⟩ (.slice pD ND cD)) w.heap.size (.slice pD ND cD) (dig (b1 * 2 ^ y)) ∧ Kp w (((w5.setCell ⟨w.heap.size, 0, none⟩ (.bool neg)).setCell ⟨w.heap.size, 1, none⟩ (.slice pN NN cN)).setCell ⟨w.heap.size, 2, none⟩ (.slice pD ND cD))) := ⟨((((ON.out.setOther hlt (.bool neg)).setOther hlt (.slice pN NN cN)).setOther hlt (.slice pD ND cD))).mono (Nat.le_of_lt hlt), ((((OD.out.setOther hlt (.bool neg)).setOther hlt (.slice pN NN cN)).setOther hlt (.slice pD ND cD))).mono (Nat.le_of_lt hlt), (((hk0.setCell (Nat.le_refl _) (.bool neg)).setCell (Nat.le_refl _) (.slice pN NN cN)).setCell (Nat.le_refl _) (.slice pD ND cD))⟩
      clear hk0 hlt hk9
      go_wp2
      exact bodyPost_ret (v := .agg #[.bool neg, .slice pN NN cN, .slice pD ND cD]) (by simp [results, Tryz.results68, go_sem] <;> simp [go_sem, *]) rfl ⟨_, _, a1 * 2 ^ x, b1 * 2 ^ y, neg, rfl, HZ.out.1, HZ.out.2.1, ⟨HFR.out, fun _ => rfl⟩, HZ.out.2.2⟩
    · by_cases cx2 : ex < 0
      · have hx9 : wrap64 (-ex) = (y : Int) := by rw [show -ex = (y : Int) from by have := HX.out; omega]; exact w64x _ (by omega) (by have := HB1.out; omega)
        have hc := leftO v4 b1 y w4 OB.out.ls HB1.out.2.1 HB1.out.2.2.2
        have t1 : ¬ 0 < ex := by omega
        have t2 : ex < 0 := cx2
        have HY0 : Hid (x = 0) := by have := HX.out; show _ = _; omega
        clear cx cx2
        go_wp2_with fail
        try rw [g2]
        try rw [hx9]
        refine hc.mono ?_; rintro e w5 ⟨v5, rfl, hO, hk⟩
        have OD : Hid (Own w5 w0.heap.size v5 (dig (b1 * 2 ^ y))) := hO.mono K0.out.size
        have ON : Hid (Own w5 w0.heap.size v3 (dig (a1 * 2 ^ x))) := by rw [HY0.out, Nat.pow_zero, Nat.mul_one]; exact OA.out.kp hk
        replace K0 : Hid (Kp w0 w5) := K0.out.trans hk
        clear hc hO hk OA OB
        obtain ⟨pN, cN, hvN, _⟩ := ON.out.len
        obtain ⟨NN, hNN⟩ : ∃ NN, NN = (dig (a1 * 2 ^ x)).length := ⟨_, rfl⟩
        rw [← hNN] at hvN
        subst hvN
        clear hNN
        obtain ⟨pD, cD, hvD, _⟩ := OD.out.len
        obtain ⟨ND, hND⟩ : ∃ ND, ND = (dig (b1 * 2 ^ y)).length := ⟨_, rfl⟩
        rw [← hND] at hvD
        subst hvD
        clear hND
        have hlt : w.heap.size < w0.heap.size := by rw [Hw0.out]; simp
        have k0 := kkeep K0.out (b := w.heap.size) (o := 0) (v := .bool false) (by rw [Hw0.out]; simp [go_sem])
        have z0 : w5.frozen? ⟨w.heap.size, 0, none⟩ = false := by rw [Below.frozen K0.out hlt, Hw0.out]; simp [go_sem]
        have k1 := kkeep K0.out (b := w.heap.size) (o := 1) (v := .slice none 0 0) (by rw [Hw0.out]; simp [go_sem])
        have z1 : w5.frozen? ⟨w.heap.size, 1, none⟩ = false := by rw [Below.frozen K0.out hlt, Hw0.out]; simp [go_sem]
        have k2 := kkeep K0.out (b := w.heap.size) (o := 2) (v := .slice none 0 0) (by rw [Hw0.out]; simp [go_sem])
        have z2 : w5.frozen? ⟨w.heap.size, 2, none⟩ = false := by rw [Below.frozen K0.out hlt, Hw0.out]; simp [go_sem]
        have hk9 : Kp w w0 := by rw [Hw0.out]; exact (Kp.refl w).alloc _
        have hk0 : Kp w w5 := hk9.trans K0.out
        have HZ : Hid (Own (((w5.setCell ⟨w.heap.size, 0, none⟩ (.bool neg)).setCell ⟨w.heap.size, 1, none⟩ (.slice pN NN cN)).setCell ⟨w.heap.size, 2, none⟩ (.slice pD ND cD)) w.heap.size (.slice pN NN cN) (dig (a1 * 2 ^ x)) ∧ Own (((w5.setCell ⟨w.heap.size, 0, none⟩ (.bool neg)).setCell ⟨w.heap.size, 1, none⟩ (.slice pN NN cN)).setCell ⟨w.heap.size, 2, none⟩ (.slice pD ND cD)) w.heap.size (.slice pD ND cD) (dig (b1 * 2 ^ y)) ∧ Kp w (((w5.setCell ⟨w.heap.size, 0, none⟩ (.bool neg)).setCell ⟨w.heap.size, 1, none⟩ (.slice pN NN cN)).setCell ⟨w.heap.size, 2, none⟩ (.slice pD ND cD))) := ⟨((((ON.out.setOther hlt (.bool neg)).setOther hlt (.slice pN NN cN)).setOther hlt (.slice pD ND cD))).mono (Nat.le_of_lt hlt), ((((OD.out.setOther hlt (.bool neg)).setOther hlt (.slice pN NN cN)).setOther hlt (.slice pD ND cD))).mono (Nat.le_of_lt hlt), (((hk0.setCell (Nat.le_refl _) (.bool neg)).setCell (Nat.le_refl _) (.slice pN NN cN)).setCell (Nat.le_refl _) (.slice pD ND cD))⟩
        clear hk0 hlt hk9
        go_wp2
        exact bodyPost_ret (v := .agg #[.bool neg, .slice pN NN cN, .slice pD ND cD]) (by simp [results, Tryz.results68, go_sem] <;> simp [go_sem, *]) rfl ⟨_, _, a1 * 2 ^ x, b1 * 2 ^ y, neg, rfl, HZ.out.1, HZ.out.2.1, ⟨HFR.out, fun _ => rfl⟩, HZ.out.2.2⟩
      · have t1 : ¬ 0 < ex := by omega
        have t2 : ¬ ex < 0 := cx2
        have HY0 : Hid (x = 0 ∧ y = 0) := by have := HX.out; exact ⟨by omega, by omega⟩
        clear cx cx2
        have ON : Hid (Own w4 w0.heap.size v3 (dig (a1 * 2 ^ x))) := by rw [HY0.out.1, Nat.pow_zero, Nat.mul_one]; exact OA.out
        have OD : Hid (Own w4 w0.heap.size v4 (dig (b1 * 2 ^ y))) := by rw [HY0.out.2, Nat.pow_zero, Nat.mul_one]; exact OB.out
        clear OA OB
        obtain ⟨pN, cN, hvN, _⟩ := ON.out.len
        obtain ⟨NN, hNN⟩ : ∃ NN, NN = (dig (a1 * 2 ^ x)).length := ⟨_, rfl⟩
        rw [← hNN] at hvN
        subst hvN
        clear hNN
        obtain ⟨pD, cD, hvD, _⟩ := OD.out.len
        obtain ⟨ND, hND⟩ : ∃ ND, ND = (dig (b1 * 2 ^ y)).length := ⟨_, rfl⟩
        rw [← hND] at hvD
        subst hvD
        clear hND
        have hlt : w.heap.size < w0.heap.size := by rw [Hw0.out]; simp
        have k0 := kkeep K0.out (b := w.heap.size) (o := 0) (v := .bool false) (by rw [Hw0.out]; simp [go_sem])
        have z0 : w4.frozen? ⟨w.heap.size, 0, none⟩ = false := by rw [Below.frozen K0.out hlt, Hw0.out]; simp [go_sem]
        have k1 := kkeep K0.out (b := w.heap.size) (o := 1) (v := .slice none 0 0) (by rw [Hw0.out]; simp [go_sem])
        have z1 : w4.frozen? ⟨w.heap.size, 1, none⟩ = false := by rw [Below.frozen K0.out hlt, Hw0.out]; simp [go_sem]
        have k2 := kkeep K0.out (b := w.heap.size) (o := 2) (v := .slice none 0 0) (by rw [Hw0.out]; simp [go_sem])
        have z2 : w4.frozen? ⟨w.heap.size, 2, none⟩ = false := by rw [Below.frozen K0.out hlt, Hw0.out]; simp [go_sem]
        have hk9 : Kp w w0 := by rw [Hw0.out]; exact (Kp.refl w).alloc _
        have hk0 : Kp w w4 := hk9.trans K0.out
        have HZ : Hid (Own (((w4.setCell ⟨w.heap.size, 0, none⟩ (.bool neg)).setCell ⟨w.heap.size, 1, none⟩ (.slice pN NN cN)).setCell ⟨w.heap.size, 2, none⟩ (.slice pD ND cD)) w.heap.size (.slice pN NN cN) (dig (a1 * 2 ^ x)) ∧ Own (((w4.setCell ⟨w.heap.size, 0, none⟩ (.bool neg)).setCell ⟨w.heap.size, 1, none⟩ (.slice pN NN cN)).setCell ⟨w.heap.size, 2, none⟩ (.slice pD ND cD)) w.heap.size (.slice pD ND cD) (dig (b1 * 2 ^ y)) ∧ Kp w (((w4.setCell ⟨w.heap.size, 0, none⟩ (.bool neg)).setCell ⟨w.heap.size, 1, none⟩ (.slice pN NN cN)).setCell ⟨w.heap.size, 2, none⟩ (.slice pD ND cD))) := ⟨((((ON.out.setOther hlt (.bool neg)).setOther hlt (.slice pN NN cN)).setOther hlt (.slice pD ND cD))).mono (Nat.le_of_lt hlt), ((((OD.out.setOther hlt (.bool neg)).setOther hlt (.slice pN NN cN)).setOther hlt (.slice pD ND cD))).mono (Nat.le_of_lt hlt), (((hk0.setCell (Nat.le_refl _) (.bool neg)).setCell (Nat.le_refl _) (.slice pN NN cN)).setCell (Nat.le_refl _) (.slice pD ND cD))⟩
        clear hk0 hlt hk9
        go_wp2
        exact bodyPost_ret (v := .agg #[.bool neg, .slice pN NN cN, .slice pD ND cD]) (by simp [results, Tryz.results68, go_sem] <;> simp [go_sem, *]) rfl ⟨_, _, a1 * 2 ^ x, b1 * 2 ^ y, neg, rfl, HZ.out.1, HZ.out.2.1, ⟨HFR.out, fun _ => rfl⟩, HZ.out.2.2⟩
end Go.Proofs.YthdnajcgdngmcaaGreatDoor
namespace Go.Proofs.YthdnajcgdngmcaaGreatDoor
open Go.RowKit
set_option maxRecDepth 20000 in
set_option maxHeartbeats 400000 in
theorem fromBitsX_ (n : Bool) (m : Nat) (hm : m < 9218868437227405312) (w : World) :
    Calls Tryz.prog 35 #[.int .u64 ((Fb.wD n m : Nat) : Int)] w fun e w' => ∃ (vn vd : Value) (a b : Nat) (ng : Bool), e = .returned (.agg #[.bool ng, vn, vd]) ∧ Own w' w.heap.size vn (dig a) ∧ Own w' w.heap.size vd (dig b) ∧ (FracX (Fb.sgD m) 1 (Fb.epD m) a b ∧ (Fb.sgD m ≠ 0 → ng = n)) ∧ Kp w w' := by
  obtain ⟨w0, hw0⟩ : ∃ w0, w0 = w.alloc (.cells #[.bool false, .slice none 0 0, .slice none 0 0] 49) := ⟨_, rfl⟩
  have Hw0 : Hid (w0 = w.alloc (.cells #[.bool false, .slice none 0 0, .slice none 0 0] 49)) := hw0
  obtain ⟨X, hX⟩ : ∃ X, X = Fb.wD n m := ⟨_, rfl⟩
  obtain ⟨Q, hQ⟩ : ∃ Q, Q = X / 4503599627370496 := ⟨_, rfl⟩
  obtain ⟨eN, heN⟩ : ∃ eN, eN = m / 4503599627370496 := ⟨_, rfl⟩
  obtain ⟨fN, hfN⟩ : ∃ fN, fN = m % 4503599627370496 := ⟨_, rfl⟩
  obtain ⟨f2, f3, f4, b1, b2, b3⟩ := fb_bits n m X Q eN fN hm hX hQ heN hfN
  have f1 : (X : Int) / 4503599627370496 = (Q : Int) := by rw [hQ]; exact (Int.natCast_ediv _ _).symm
  obtain ⟨s63, hs63⟩ : ∃ s63 : Int, s63 = if n = true then 1 else 0 := ⟨_, rfl⟩
  rw [← hs63] at f4
  have hsn : (s63 == 1) = n := by rw [hs63]; cases n <;> rfl
  have hsn2 : decide (s63 = 1) = n := by rw [hs63]; cases n <;> rfl
  rw [← hX]
  obtain ⟨ge, ge2⟩ := fb_e eN b1
  clear hX hQ hs63 b3
  by_cases ce : eN = 0
  · obtain ⟨f, hf⟩ : ∃ f, f = fN := ⟨_, rfl⟩
    obtain ⟨x, hx⟩ : ∃ x : Int, x = -1074 := ⟨_, rfl⟩
    have hse := sgep0 m (by rw [← heN]; exact ce)
    rw [← hfN, ← hf, ← hx] at hse
    have HS : Hid (Fb.sgD m = f ∧ Fb.epD m = x) := hse
    have hbf : f < 18446744073709551616 := by rw [hf]; exact Nat.lt_trans b2 (by decide)
    have hbx : x.natAbs ≤ 4096 := by rw [hx]; decide
    have HF : Hid (f < 18446744073709551616 ∧ blen f ≤ 64 ∧ x.natAbs ≤ 1048576) := small64 f x hbf hbx
    clear hse hbf hbx
    have HXX : Hid (x = -1074) := hx
    subst ce
    rw [← hf] at f3
    clear b1 b2 heN hfN hf hx hm
    go_enter Tryz.func35, Tryz.ntmps35
    have hc := rsmall_ f HF.out.1 w0
    go_wp2_with fail
    rw [← hw0]
    refine hc.mono ?_; rintro e w1 ⟨v1, rfl, hO, hk⟩
    have H1 : Hid (Ls w1 v1 (dig f)) := hO.ls
    have K0 : Hid (Kp w0 w1) := hk
    clear hc hO hk hw0
    obtain ⟨gl, hgl⟩ : ∃ gl, gl = w1.heap.size := ⟨_, rfl⟩
    obtain ⟨wl, hwl⟩ : ∃ wl, wl = w1.alloc (.cells #[.int .u32 1] 80) := ⟨_, rfl⟩
    have O1 := own1 w1
    rw [← hwl, ← hgl] at O1
    have kl : Kp w1 wl := by rw [hwl]; exact (Kp.refl _).alloc _
    replace H1 : Hid (Ls wl v1 (dig f)) := H1.out.kp kl
    replace K0 : Hid (Kp w0 wl) := K0.out.trans kl
    have hc := fracX_ n v1 (.slice (some ⟨gl, 0, none⟩) 1 1) (dig f) [1] x wl H1.out O1.ls (Wd_dig f) (wd1 1 (by decide)) (Nat.le_trans (dlen f 2 HF.out.2.1) (by decide)) (by simp) (by decide) HF.out.2.2
    rw [val_dig, show val [1] = 1 from by decide] at hc
    rw [HXX.out] at hc
    clear O1 kl H1
    go_wp2_with fail
    try rw [hsn]
    rw [← hgl, ← hwl]
    refine hc.mono ?_; rintro e w2 ⟨vn, vd, a, b, ng, rfl, hN, hD, hF, hk⟩
    clear hgl hwl hc
    have hsz := K0.out.size
    replace K0 : Hid (Kp w0 w2) := K0.out.trans hk
    have ON : Hid (Own w2 w0.heap.size vn (dig a)) := hN.mono hsz
    have OD : Hid (Own w2 w0.heap.size vd (dig b)) := hD.mono hsz
    clear hN hD hk hsz
    obtain ⟨pN, cN, hvN, _⟩ := ON.out.len
    obtain ⟨NN, hNN⟩ : ∃ NN, NN = (dig (a)).length := ⟨_, rfl⟩
    rw [← hNN] at hvN
    subst hvN
    clear hNN
    obtain ⟨pD, cD, hvD, _⟩ := OD.out.len
    obtain ⟨ND, hND⟩ : ∃ ND, ND = (dig (b)).length := ⟨_, rfl⟩
    rw [← hND] at hvD
    subst hvD
    clear hND
    have hlt : w.heap.size < w0.heap.size := by rw [Hw0.out]; simp
    have k0 := kkeep K0.out (b := w.heap.size) (o := 0) (v := .bool false) (by rw [Hw0.out]; simp [go_sem])
    have z0 : w2.frozen? ⟨w.heap.size, 0, none⟩ = false := by rw [Below.frozen K0.out hlt, Hw0.out]; simp [go_sem]
    have k1 := kkeep K0.out (b := w.heap.size) (o := 1) (v := .slice none 0 0) (by rw [Hw0.out]; simp [go_sem])
    have z1 : w2.frozen? ⟨w.heap.size, 1, none⟩ = false := by rw [Below.frozen K0.out hlt, Hw0.out]; simp [go_sem]
    have k2 := kkeep K0.out (b := w.heap.size) (o := 2) (v := .slice none 0 0) (by rw [Hw0.out]; simp [go_sem])
    have z2 : w2.frozen? ⟨w.heap.size, 2, none⟩ = false := by rw [Below.frozen K0.out hlt, Hw0.out]; simp [go_sem]
    have hk9 : Kp w w0 := by rw [Hw0.out]; exact (Kp.refl w).alloc _
    have hk0 : Kp w w2 := hk9.trans K0.out
    have HZ : Hid (Own (((w2.setCell ⟨w.heap.size, 0, none⟩ (.bool ng)).setCell ⟨w.heap.size, 1, none⟩ (.slice pN NN cN)).setCell ⟨w.heap.size, 2, none⟩ (.slice pD ND cD)) w.heap.size (.slice pN NN cN) (dig a) ∧ Own (((w2.setCell ⟨w.heap.size, 0, none⟩ (.bool ng)).setCell ⟨w.heap.size, 1, none⟩ (.slice pN NN cN)).setCell ⟨w.heap.size, 2, none⟩ (.slice pD ND cD)) w.heap.size (.slice pD ND cD) (dig b) ∧ Kp w (((w2.setCell ⟨w.heap.size, 0, none⟩ (.bool ng)).setCell ⟨w.heap.size, 1, none⟩ (.slice pN NN cN)).setCell ⟨w.heap.size, 2, none⟩ (.slice pD ND cD))) := ⟨((((ON.out.setOther hlt (.bool ng)).setOther hlt (.slice pN NN cN)).setOther hlt (.slice pD ND cD))).mono (Nat.le_of_lt hlt), ((((OD.out.setOther hlt (.bool ng)).setOther hlt (.slice pN NN cN)).setOther hlt (.slice pD ND cD))).mono (Nat.le_of_lt hlt), (((hk0.setCell (Nat.le_refl _) (.bool ng)).setCell (Nat.le_refl _) (.slice pN NN cN)).setCell (Nat.le_refl _) (.slice pD ND cD))⟩
    have HFF : Hid (FracX (Fb.sgD m) 1 (Fb.epD m) a b ∧ (Fb.sgD m ≠ 0 → ng = n)) := by rw [HS.out.1, HS.out.2, HXX.out]; exact hF
    clear hk0 hlt hk9 hF
    go_wp2
    exact bodyPost_ret (v := .agg #[.bool ng, .slice pN NN cN, .slice pD ND cD]) (by simp [results, Tryz.results35, go_sem] <;> simp [go_sem, *]) rfl ⟨_, _, a, b, ng, rfl, HZ.out.1, HZ.out.2.1, HFF.out, HZ.out.2.2⟩
  · obtain ⟨f, hf⟩ : ∃ f, f = fN + 4503599627370496 := ⟨_, rfl⟩
    obtain ⟨e1, he1⟩ : ∃ e1 : Int, e1 = (eN : Int) - 1 := ⟨_, rfl⟩
    obtain ⟨x, hx⟩ : ∃ x : Int, x = e1 - 1074 := ⟨_, rfl⟩
    have hse := sgep1 m hm (by rw [← heN]; exact ce)
    rw [← hfN, ← hf, ← heN, ← he1, ← hx] at hse
    have HS : Hid (Fb.sgD m = f ∧ Fb.epD m = x) := hse
    obtain ⟨t1, g3, g4', g5', hbf, hbx⟩ := fb_nums eN fN f e1 x b1 b2 ce hf he1 hx
    have b9 : eN ≤ 2047 := Nat.le_of_lt b1
    have HXX : Hid ((eN : Int) - 1 - 1074 = x) := by show _ = _; clear f1 f2 f3 f4; omega
    clear g4' g5' ge ge2
    have HF : Hid (f < 18446744073709551616 ∧ blen f ≤ 64 ∧ x.natAbs ≤ 1048576) := small64 f x hbf hbx
    clear hse hbf hbx
    clear b1 b2 heN hfN hf hx hm ce he1
    go_enter Tryz.func35, Tryz.ntmps35
    have hc := rsmall_ f HF.out.1 w0
    go_wp2_with fail
    rw [← hw0]
    refine hc.mono ?_; rintro e w1 ⟨v1, rfl, hO, hk⟩
    have H1 : Hid (Ls w1 v1 (dig f)) := hO.ls
    have K0 : Hid (Kp w0 w1) := hk
    clear hc hO hk hw0
    obtain ⟨gl, hgl⟩ : ∃ gl, gl = w1.heap.size := ⟨_, rfl⟩
    obtain ⟨wl, hwl⟩ : ∃ wl, wl = w1.alloc (.cells #[.int .u32 1] 80) := ⟨_, rfl⟩
    have O1 := own1 w1
    rw [← hwl, ← hgl] at O1
    have kl : Kp w1 wl := by rw [hwl]; exact (Kp.refl _).alloc _
    replace H1 : Hid (Ls wl v1 (dig f)) := H1.out.kp kl
    replace K0 : Hid (Kp w0 wl) := K0.out.trans kl
    have hc := fracX_ n v1 (.slice (some ⟨gl, 0, none⟩) 1 1) (dig f) [1] x wl H1.out O1.ls (Wd_dig f) (wd1 1 (by decide)) (Nat.le_trans (dlen f 2 HF.out.2.1) (by decide)) (by simp) (by decide) HF.out.2.2
    rw [val_dig, show val [1] = 1 from by decide] at hc
    skip
    clear O1 kl H1
    go_wp2_with fail
    try rw [hsn]
    rw [HXX.out]
    rw [← hgl, ← hwl]
    refine hc.mono ?_; rintro e w2 ⟨vn, vd, a, b, ng, rfl, hN, hD, hF, hk⟩
    clear hgl hwl hc
    have hsz := K0.out.size
    replace K0 : Hid (Kp w0 w2) := K0.out.trans hk
    have ON : Hid (Own w2 w0.heap.size vn (dig a)) := hN.mono hsz
    have OD : Hid (Own w2 w0.heap.size vd (dig b)) := hD.mono hsz
    clear hN hD hk hsz
    obtain ⟨pN, cN, hvN, _⟩ := ON.out.len
    obtain ⟨NN, hNN⟩ : ∃ NN, NN = (dig (a)).length := ⟨_, rfl⟩
    rw [← hNN] at hvN
    subst hvN
    clear hNN
    obtain ⟨pD, cD, hvD, _⟩ := OD.out.len
    obtain ⟨ND, hND⟩ : ∃ ND, ND = (dig (b)).length := ⟨_, rfl⟩
    rw [← hND] at hvD
    subst hvD
    clear hND
    have hlt : w.heap.size < w0.heap.size := by rw [Hw0.out]; simp
    have k0 := kkeep K0.out (b := w.heap.size) (o := 0) (v := .bool false) (by rw [Hw0.out]; simp [go_sem])
    have z0 : w2.frozen? ⟨w.heap.size, 0, none⟩ = false := by rw [Below.frozen K0.out hlt, Hw0.out]; simp [go_sem]
    have k1 := kkeep K0.out (b := w.heap.size) (o := 1) (v := .slice none 0 0) (by rw [Hw0.out]; simp [go_sem])
    have z1 : w2.frozen? ⟨w.heap.size, 1, none⟩ = false := by rw [Below.frozen K0.out hlt, Hw0.out]; simp [go_sem]
    have k2 := kkeep K0.out (b := w.heap.size) (o := 2) (v := .slice none 0 0) (by rw [Hw0.out]; simp [go_sem])
    have z2 : w2.frozen? ⟨w.heap.size, 2, none⟩ = false := by rw [Below.frozen K0.out hlt, Hw0.out]; simp [go_sem]
    have hk9 : Kp w w0 := by rw [Hw0.out]; exact (Kp.refl w).alloc _
    have hk0 : Kp w w2 := hk9.trans K0.out
    have HZ : Hid (Own (((w2.setCell ⟨w.heap.size, 0, none⟩ (.bool ng)).setCell ⟨w.heap.size, 1, none⟩ (.slice pN NN cN)).setCell ⟨w.heap.size, 2, none⟩ (.slice pD ND cD)) w.heap.size (.slice pN NN cN) (dig a) ∧ Own (((w2.setCell ⟨w.heap.size, 0, none⟩ (.bool ng)).setCell ⟨w.heap.size, 1, none⟩ (.slice pN NN cN)).setCell ⟨w.heap.size, 2, none⟩ (.slice pD ND cD)) w.heap.size (.slice pD ND cD) (dig b) ∧ Kp w (((w2.setCell ⟨w.heap.size, 0, none⟩ (.bool ng)).setCell ⟨w.heap.size, 1, none⟩ (.slice pN NN cN)).setCell ⟨w.heap.size, 2, none⟩ (.slice pD ND cD))) := ⟨((((ON.out.setOther hlt (.bool ng)).setOther hlt (.slice pN NN cN)).setOther hlt (.slice pD ND cD))).mono (Nat.le_of_lt hlt), ((((OD.out.setOther hlt (.bool ng)).setOther hlt (.slice pN NN cN)).setOther hlt (.slice pD ND cD))).mono (Nat.le_of_lt hlt), (((hk0.setCell (Nat.le_refl _) (.bool ng)).setCell (Nat.le_refl _) (.slice pN NN cN)).setCell (Nat.le_refl _) (.slice pD ND cD))⟩
    have HFF : Hid (FracX (Fb.sgD m) 1 (Fb.epD m) a b ∧ (Fb.sgD m ≠ 0 → ng = n)) := by rw [HS.out.1, HS.out.2]; exact hF
    clear hk0 hlt hk9 hF
    go_wp2
    exact bodyPost_ret (v := .agg #[.bool ng, .slice pN NN cN, .slice pD ND cD]) (by simp [results, Tryz.results35, go_sem] <;> simp [go_sem, *]) rfl ⟨_, _, a, b, ng, rfl, HZ.out.1, HZ.out.2.1, HFF.out, HZ.out.2.2⟩
end Go.Proofs.YthdnajcgdngmcaaGreatDoor
namespace Go.Proofs.YthdnajcgdngmcaaGreatDoor
open Go.RowKit
theorem odd_one (o t k : Nat) (ho : o % 2 = 1) (h : 2 ^ t = o * 2 ^ k) : o = 1 ∧ k = t := by
  rcases Nat.lt_or_ge t k with c | c
  · have e : 2 ^ k = 2 ^ t * 2 ^ (k - t) := by rw [← Nat.pow_add]; congr 1; omega
    rw [e, ← Nat.mul_assoc, Nat.mul_comm o, Nat.mul_assoc] at h
    have hp := Nat.two_pow_pos t
    have h2 : o * 2 ^ (k - t) = 1 := by
      have : 2 ^ t * (o * 2 ^ (k - t)) = 2 ^ t * 1 := by rw [← h, Nat.mul_one]
      exact Nat.eq_of_mul_eq_mul_left hp this
    have h3 := Nat.eq_one_of_mul_eq_one_left h2
    have : 2 ^ 1 ≤ 2 ^ (k - t) := Nat.pow_le_pow_right (by decide) (by omega)
    omega
  · have e : 2 ^ t = 2 ^ (t - k) * 2 ^ k := by rw [← Nat.pow_add]; congr 1; omega
    rw [e] at h
    have h2 := Nat.eq_of_mul_eq_mul_right (Nat.two_pow_pos k) h
    cases hd : t - k with
    | zero => rw [hd] at h2; simp at h2; omega
    | succ u => rw [hd, Nat.pow_succ] at h2; omega
/-- a of 2^-j is U of 2^-E, in lowest terms -/
def Dv (a j E U : Nat) : Prop := j ≤ E ∧ (a % 2 = 1 ∨ j = 0) ∧ a * 2 ^ (E - j) = U
/-- a ratio that is V of 2^-E, in lowest terms; its rows from base on -/
def Dy (base : Nat) (w : World) (s1 : Bool) (p1 : Option Addr) (l1 c1 : Nat) (q1 : Option Addr) (k1 d1 : Nat) (V : Int) (E : Nat) : Prop := ∃ a j, Own w base (.slice p1 l1 c1) (dig a) ∧ Own w base (.slice q1 k1 d1) (dig (2 ^ j)) ∧ Dv a j E V.natAbs ∧ (V ≠ 0 → s1 = decide (V < 0))
theorem Dy.kp {base : Nat} {w w' : World} {s1 : Bool} {p1 : Option Addr} {l1 c1 : Nat} {q1 : Option Addr} {k1 d1 : Nat} {V : Int} {E : Nat} (h : Dy base w s1 p1 l1 c1 q1 k1 d1 V E) (g : Kp w w') : Dy base w' s1 p1 l1 c1 q1 k1 d1 V E := by
  obtain ⟨a, j, h1, h2, h3⟩ := h
  exact ⟨a, j, h1.kp g, h2.kp g, h3⟩
theorem Dy.mono {base b2 : Nat} {w : World} {s1 : Bool} {p1 : Option Addr} {l1 c1 : Nat} {q1 : Option Addr} {k1 d1 : Nat} {V : Int} {E : Nat} (h : Dy base w s1 p1 l1 c1 q1 k1 d1 V E) (g : b2 ≤ base) : Dy b2 w s1 p1 l1 c1 q1 k1 d1 V E := by
  obtain ⟨a, j, h1, h2, h3⟩ := h
  exact ⟨a, j, h1.mono g, h2.mono g, h3⟩
theorem Dv.lt {a j E U : Nat} (h : Dv a j E U) (B : Nat) (hU : U < 2 ^ B) : a < 2 ^ B := by
  obtain ⟨h1, h2, h3⟩ := h
  have := Nat.two_pow_pos (E - j)
  have : a * 1 ≤ a * 2 ^ (E - j) := Nat.mul_le_mul_left a this
  omega
end Go.Proofs.YthdnajcgdngmcaaGreatDoor
namespace Go.Proofs.YthdnajcgdngmcaaGreatDoor
open Go.RowKit
theorem Dv.up {a j E U : Nat} (h : Dv a j E U) (t : Nat) : Dv a j (E + t) (U * 2 ^ t) := by
  obtain ⟨h1, h2, h3⟩ := h
  refine ⟨by omega, h2, ?_⟩
  rw [← h3, Nat.mul_assoc, ← Nat.pow_add]; congr 2; omega
theorem Dy.up {base : Nat} {w : World} {s1 : Bool} {p1 : Option Addr} {l1 c1 : Nat} {q1 : Option Addr} {k1 d1 : Nat} {V : Int} {E : Nat} (h : Dy base w s1 p1 l1 c1 q1 k1 d1 V E) (t : Nat) : Dy base w s1 p1 l1 c1 q1 k1 d1 (V * ((2 ^ t : Nat) : Int)) (E + t) := by
  obtain ⟨a, j, h1, h2, h3, h4⟩ := h
  have hp := Nat.two_pow_pos t
  refine ⟨a, j, h1, h2, ?_, fun h => ?_⟩
  · rw [Int.natAbs_mul, Int.natAbs_natCast]; exact h3.up t
  · have hv : V ≠ 0 := fun z => h (by rw [z, Int.zero_mul])
    rw [h4 hv]
    have := (sgn_mul V ((2 ^ t : Nat) : Int) (by omega)).1
    simp only [decide_eq_decide]; exact this
theorem dyfrom_ (n : Bool) (m K : Nat) (hK : K = 1074) (hm : m < 9218868437227405312) (w : World) : Calls Tryz.prog 35 #[.int .u64 ((Fq.wD n m : Nat) : Int)] w fun e w' => ∃ (s3 : Bool) (p3 : Option Addr) (l3 c3 : Nat) (q3 : Option Addr) (k3 d3 : Nat), e = .returned (.agg #[.bool s3, .slice p3 l3 c3, .slice q3 k3 d3]) ∧ Dy w.heap.size w' s3 p3 l3 c3 q3 k3 d3 (Iv n m) (K) ∧ Kp w w' := by
  have h := fromBitsX_ n m hm w
  refine Calls.mono (show Calls Tryz.prog 35 #[.int .u64 ((Fq.wD n m : Nat) : Int)] w _ from h) ?_
  rintro e w' ⟨vn, vd, a, b, ng, rfl, u1, u2, ⟨u3, u4⟩, g⟩
  obtain ⟨v1, v2, v3, v4, v5⟩ := Fq.vlsgD m hm
  have v1 : Fq.sgD m * 2 ^ (Fq.epD m + 1074).toNat = Fq.vV Ieee.double m := v1
  have u3 : FracX (Fq.sgD m) 1 (Fq.epD m) a b := u3
  have u4 : Fq.sgD m ≠ 0 → ng = n := u4
  obtain ⟨p3, c3, rfl, -, -⟩ := u1.arr
  obtain ⟨q3, d3, rfl, -, -⟩ := u2.arr
  have ab : (Iv n m).natAbs = Fq.vV Ieee.double m := by unfold Iv; cases n <;> simp
  by_cases z : Fq.sgD m = 0
  · obtain ⟨z1, z2⟩ := u3.2.1 z
    have z3 : Fq.vV Ieee.double m = 0 := by rw [← v1, z, Nat.zero_mul]
    have z4 : Iv n m = 0 := by omega
    subst z2
    refine ⟨ng, p3, _, c3, q3, _, d3, rfl, ⟨a, 0, u1, u2, ⟨Nat.zero_le _, Or.inr rfl, ?_⟩, fun h => absurd z4 h⟩, g⟩
    rw [z1, Nat.zero_mul, ab, z3]
  · obtain ⟨oa, ob, ka, kb, x, y, g1, g2, g3, g4, g5, g6, g7, g8⟩ := u3.2.2 z
    obtain ⟨r1, r2⟩ := odd_one ob 0 kb g2 g4
    subst r1 r2
    rw [Nat.one_mul] at g6
    subst g6
    have hs : Iv n m ≠ 0 → ng = decide (Iv n m < 0) := fun h => by
      rw [u4 z]
      unfold Iv at h ⊢
      cases n
      · simp
      · simp at h ⊢; omega
    rw [g3] at v1
    refine ⟨ng, p3, _, c3, q3, _, d3, rfl, ⟨a, y, u1, u2, ?_, hs⟩, g⟩
    rw [ab, ← v1, g5]
    rcases g7 with q | q
    · subst q
      refine ⟨by omega, Or.inl (by rw [Nat.pow_zero, Nat.mul_one]; exact g1), ?_⟩
      rw [Nat.pow_zero, Nat.mul_one, Nat.mul_assoc, ← Nat.pow_add]; congr 2; omega
    · subst q
      refine ⟨Nat.zero_le _, Or.inr rfl, ?_⟩
      rw [Nat.mul_assoc, Nat.mul_assoc, ← Nat.pow_add, ← Nat.pow_add]; congr 2; omega
end Go.Proofs.YthdnajcgdngmcaaGreatDoor
namespace Go.Proofs.YthdnajcgdngmcaaGreatDoor
open Go.RowKit
theorem blen_two (j : Nat) : blen (2 ^ j) = j + 1 := blen_uniq _ j (Nat.le_refl _) (by rw [Nat.pow_succ]; have := Nat.two_pow_pos j; omega)
theorem Dy.xp {base : Nat} {w : World} {s1 : Bool} {p1 : Option Addr} {l1 c1 : Nat} {q1 : Option Addr} {k1 d1 : Nat} {V : Int} {E : Nat} (h : Dy base w s1 p1 l1 c1 q1 k1 d1 V E) (N : Nat) (hV : V.natAbs < 2 ^ N) (hE : E + 1 ≤ N) : XP base w s1 p1 l1 c1 q1 k1 d1 V (2 ^ E) N := by
  obtain ⟨a, j, h1, h2, ⟨g1, g2, g3⟩, h4⟩ := h
  have ha : a < 2 ^ N := by
    have : a * 1 ≤ a * 2 ^ (E - j) := Nat.mul_le_mul (Nat.le_refl _) Nat.one_le_two_pow
    omega
  refine ⟨a, 2 ^ j, h1, h2, Nat.ne_of_gt (Nat.two_pow_pos _), Nat.ne_of_gt (Nat.two_pow_pos _), ?_, (blen_le_iff _ _).2 ha, by rw [blen_two]; omega⟩
  have e : ((2 ^ E : Nat) : Int) = ((2 ^ (E - j) : Nat) : Int) * ((2 ^ j : Nat) : Int) := by rw [← Int.natCast_mul, ← Nat.pow_add]; congr 2; omega
  have e2 : ((a : Int)) * ((2 ^ (E - j) : Nat) : Int) = ((V.natAbs : Nat) : Int) := by rw [← Int.natCast_mul, g3]
  rw [e, ← Int.mul_assoc]
  by_cases z : V = 0
  · have : ((a : Int)) * ((2 ^ (E - j) : Nat) : Int) = 0 := by rw [e2, z]; rfl
    have h0 : rvI s1 a * ((2 ^ (E - j) : Nat) : Int) = 0 := by
      unfold rvI
      cases s1
      · simpa using this
      · simp only [if_true, Int.neg_mul, this]; rfl
    rw [h0, z]
  · have hs := h4 z
    congr 1
    unfold rvI
    by_cases c : V < 0
    · rw [hs, decide_eq_true c]
      simp only [if_true, Int.neg_mul, e2]; omega
    · rw [hs, decide_eq_false c]
      simp only [Bool.false_eq_true, if_false, e2]; omega
end Go.Proofs.YthdnajcgdngmcaaGreatDoor
namespace Go.Proofs.YthdnajcgdngmcaaGreatDoor
open Go.RowKit
set_option maxRecDepth 20000 in
set_option maxHeartbeats 400000 in
theorem raddX_ (sa sb : Bool) (a1 a2 b1 b2 : Nat) (P1 P2 Q1 Q2 : Option Addr) (C1 C2 D1 D2 : Nat) (w : World) (h1 : Arr w P1 (dig a1)) (l1 : (dig a1).length ≤ C1) (h2 : Arr w P2 (dig a2)) (l2 : (dig a2).length ≤ C2) (h3 : Arr w Q1 (dig b1)) (l3 : (dig b1).length ≤ D1) (h4 : Arr w Q2 (dig b2)) (l4 : (dig b2).length ≤ D2) (N1 N2 : Nat) (hN : N1 + N2 ≤ 100000) (ba1 : blen a1 ≤ N1) (ba2 : blen a2 ≤ N1) (bb1 : blen b1 ≤ N2) (bb2 : blen b2 ≤ N2) (za : a2 ≠ 0) (zb : b2 ≠ 0) : Calls Tryz.prog 74 #[.agg #[.bool sa, .slice P1 (dig a1).length C1, .slice P2 (dig a2).length C2], .agg #[.bool sb, .slice Q1 (dig b1).length D1, .slice Q2 (dig b2).length D2]] w fun e w' => ∃ (vn vd : Value) (a' b' : Nat) (ng : Bool), e = .returned (.agg #[.bool ng, vn, vd]) ∧ Own w' w.heap.size vn (dig a') ∧ Own w' w.heap.size vd (dig b') ∧ (rvI ng a' * ((a2 : Int) * (b2 : Int)) = (rvI sa a1 * (b2 : Int) + rvI sb b1 * (a2 : Int)) * (b' : Int) ∧ b' ≠ 0 ∧ blen a' ≤ 2 * (N1 + N2) + 3 ∧ blen b' ≤ 2 * (N1 + N2) + 3) ∧ Kp w w' := by
  obtain ⟨X, hX⟩ : ∃ X, X = a1 * b2 := ⟨_, rfl⟩
  obtain ⟨Y, hY⟩ : ∃ Y, Y = b1 * a2 := ⟨_, rfl⟩
  obtain ⟨D, hD⟩ : ∃ D, D = a2 * b2 := ⟨_, rfl⟩
  have hzD : D ≠ 0 := by rw [hD]; exact Nat.mul_ne_zero za zb
  have bX : blen X ≤ N1 + N2 := by rw [hX]; exact blen_mulX _ _ _ _ ba1 bb2
  have bY : blen Y ≤ N1 + N2 := by rw [hY, Nat.add_comm]; exact blen_mulX _ _ _ _ bb1 ba2
  have bD : blen D ≤ N1 + N2 := by rw [hD]; exact blen_mulX _ _ _ _ ba2 bb2
  obtain ⟨T9, hT9⟩ : ∃ T9 : Nat, T9 = N1 + N2 := ⟨_, rfl⟩
  have bS : ∀ c, c ≤ X + Y → blen c ≤ T9 + 1 := fun c hc => by
    have g1 := (blen_le_iff X T9).1 (by omega)
    have g2 := (blen_le_iff Y T9).1 (by omega)
    rw [blen_le_iff, Nat.pow_succ]; omega
  have lX : len32 X ≤ 16000 := dlen X 16000 (by omega)
  have lY : len32 Y ≤ 16000 := dlen Y 16000 (by omega)
  have lD : len32 D ≤ 16000 := dlen D 16000 (by omega)
  have lS : len32 (X + Y) ≤ 16000 := dlen (X + Y) 16000 (by have := bS (X + Y) (Nat.le_refl _); omega)
  have k1 : len32 a1 ≤ 4000 := dlen a1 4000 (by omega)
  have k2 : len32 a2 ≤ 4000 := dlen a2 4000 (by omega)
  have k3 : len32 b1 ≤ 4000 := dlen b1 4000 (by omega)
  have k4 : len32 b2 ≤ 4000 := dlen b2 4000 (by omega)
  have eX : rvI sa a1 * (b2 : Int) = rvI sa X := by rw [hX, rvI_mul]
  have eY : rvI sb b1 * (a2 : Int) = rvI sb Y := by rw [hY, rvI_mul]
  have eD : (a2 : Int) * (b2 : Int) = (D : Int) := by rw [hD, Int.natCast_mul]
  rw [eX, eY, eD]
  have fin : ∀ (x : Nat) (neg : Bool) (a' b' : Nat) (ng : Bool), x ≤ X + Y → rvI neg x = rvI sa X + rvI sb Y → (FracOf x D 0 a' b' ∧ (x ≠ 0 → ng = neg)) → (rvI ng a' * (D : Int) = (rvI sa X + rvI sb Y) * (b' : Int) ∧ b' ≠ 0 ∧ blen a' ≤ 2 * (N1 + N2) + 3 ∧ blen b' ≤ 2 * (N1 + N2) + 3) := fun x neg a' b' ng hx hv hF => by
    refine ⟨by rw [← hv]; exact frac_x x D a' b' ng neg hzD hF.1 hF.2, hF.1.1, ?_, ?_⟩
    · have g1 := hF.1.2.2.2.1; have g2 := bS x hx; simp at g1; omega
    · have g1 := hF.1.2.2.2.2; simp at g1; omega
  by_cases c1 : sa = sb
  · refine (raddEqO_ sa sb a1 a2 b1 b2 P1 P2 Q1 Q2 C1 C2 D1 D2 w h1 l1 h2 l2 h3 l3 h4 l4 k1 k2 k3 k4 za zb X Y D hX hY hD lX lY lD lS c1).mono ?_
    rintro e w' ⟨vn, vd, a', b', ng, he, q1, q2, q3, q4⟩
    refine ⟨vn, vd, a', b', ng, he, q1, q2, fin (X + Y) sa a' b' ng (Nat.le_refl _) ?_ q3, q4⟩
    rw [← c1]; unfold rvI; cases sa <;> simp <;> omega
  · by_cases c2 : Y ≤ X
    · refine (raddGeO_ sa sb a1 a2 b1 b2 P1 P2 Q1 Q2 C1 C2 D1 D2 w h1 l1 h2 l2 h3 l3 h4 l4 k1 k2 k3 k4 za zb X Y D hX hY hD lX lY lD lS c1 c2).mono ?_
      rintro e w' ⟨vn, vd, a', b', ng, he, q1, q2, q3, q4⟩
      refine ⟨vn, vd, a', b', ng, he, q1, q2, fin (X - Y) sa a' b' ng (by omega) ?_ q3, q4⟩
      unfold rvI; cases sa <;> cases sb <;> simp at c1 ⊢ <;> omega
    · refine (raddLtO_ sa sb a1 a2 b1 b2 P1 P2 Q1 Q2 C1 C2 D1 D2 w h1 l1 h2 l2 h3 l3 h4 l4 k1 k2 k3 k4 za zb X Y D hX hY hD lX lY lD lS c1 (by omega)).mono ?_
      rintro e w' ⟨vn, vd, a', b', ng, he, q1, q2, q3, q4⟩
      refine ⟨vn, vd, a', b', ng, he, q1, q2, fin (Y - X) sb a' b' ng (by omega) ?_ q3, q4⟩
      unfold rvI; cases sa <;> cases sb <;> simp at c1 ⊢ <;> omega
theorem xadd_ (V : Int) (V' : Int) (C C' N N' : Nat) (hN : N + N' ≤ 100000) (s : Bool) (p : Option Addr) (l c : Nat) (q : Option Addr) (k d : Nat) (s2 : Bool) (p2 : Option Addr) (l2 c2 : Nat) (q2 : Option Addr) (k2 d2 : Nat) (B1 B2 : Nat) (w : World) (h1 : XP B1 w s p l c q k d V C N) (h2 : XP B2 w s2 p2 l2 c2 q2 k2 d2 (V') C' N') : Calls Tryz.prog 74 #[.agg #[.bool s, .slice p l c, .slice q k d], .agg #[.bool s2, .slice p2 l2 c2, .slice q2 k2 d2]] w fun e w' => ∃ (s3 : Bool) (p3 : Option Addr) (l3 c3 : Nat) (q3 : Option Addr) (k3 d3 : Nat), e = .returned (.agg #[.bool s3, .slice p3 l3 c3, .slice q3 k3 d3]) ∧ XP w.heap.size w' s3 p3 l3 c3 q3 k3 d3 (V * (C' : Int) + V' * (C : Int)) (C * C') (2 * (N + N') + 3) ∧ Kp w w' := by
  obtain ⟨a1, a2, u1, u2, u3⟩ := h1
  obtain ⟨b1, b2, v1, v2, v3⟩ := h2
  obtain ⟨P1, C1, e1, x1, y1⟩ := u1.arr
  obtain ⟨P2, C2, e2, x2, y2⟩ := u2.arr
  obtain ⟨Q1, D1, e3, x3, y3⟩ := v1.arr
  obtain ⟨Q2, D2, e4, x4, y4⟩ := v2.arr
  rw [e1, e2, e3, e4]
  refine (raddX_ s s2 a1 a2 b1 b2 P1 P2 Q1 Q2 C1 C2 D1 D2 w x1 y1 x2 y2 x3 y3 x4 y4 N N' hN u3.2.2.2.1 u3.2.2.2.2 v3.2.2.2.1 v3.2.2.2.2 u3.1 v3.1).mono ?_
  rintro e w' ⟨vn, vd, a', b', ng, rfl, o1, o2, ⟨f1, f2, f3, f4⟩, g⟩
  obtain ⟨p3, c3, rfl, -, -⟩ := o1.arr
  obtain ⟨q3, d3, rfl, -, -⟩ := o2.arr
  exact ⟨ng, p3, _, c3, q3, _, d3, rfl, ⟨a', b', o1, o2, XF.add s s2 ng a1 a2 b1 b2 a' b' V V' C C' N N' _ u3 v3 f2 f1 f3 f4⟩, g⟩
end Go.Proofs.YthdnajcgdngmcaaGreatDoor
namespace Go.Proofs.YthdnajcgdngmcaaGreatDoor
open Go.RowKit
set_option linter.unusedVariables false
set_option linter.unusedSimpArgs false
set_option maxRecDepth 20000 in
set_option maxHeartbeats 1000000 in
theorem rnegXT_ (p : Option Addr) (l c : Nat) (q : Option Addr) (k d : Nat) (a b : Nat) (w : World) (h1 : Own w 0 (.slice p l c) (dig a)) (h2 : Own w 0 (.slice q k d) (dig b)) (la : blen a ≤ 100000) (lb : blen b ≤ 100000) : Calls Tryz.prog 75 #[.agg #[.bool true, .slice p l c, .slice q k d]] w fun e w' => ∃ (p2 : Option Addr) (l2 c2 : Nat) (q2 : Option Addr) (k2 d2 : Nat), e = .returned (.agg #[.bool false, .slice p2 l2 c2, .slice q2 k2 d2]) ∧ Own w' w.heap.size (.slice p2 l2 c2) (dig a) ∧ Own w' w.heap.size (.slice q2 k2 d2) (dig b) ∧ Kp w w' := by
  have nrm : ∀ (pp : Option Addr) (ll cc : Nat) (x : Nat), Own w 0 (.slice pp ll cc) (dig x) → blen x ≤ 100000 → ∀ W : World, Kp w W → Calls Tryz.prog 105 #[.slice pp ll cc] W fun e w' => ∃ (p2 : Option Addr) (l2 c2 : Nat), e = .returned (.slice p2 l2 c2) ∧ Own w' W.heap.size (.slice p2 l2 c2) (dig x) ∧ Kp W w' := by
    intro pp ll cc x h hx W g
    have hl : (dig x).length ≤ 1048576 := Nat.le_trans (show len32 x ≤ 4000 from dlen x 4000 (by omega)) (by decide)
    have h := normO (.slice pp ll cc) (dig x) W (h.kp g).ls (Wd_dig _) hl
    rw [val_dig] at h
    refine h.mono ?_
    rintro e w' ⟨v', rfl, o1, g2⟩
    obtain ⟨p2, c2, rfl, -, -⟩ := o1.arr
    exact ⟨p2, _, c2, rfl, o1, g2⟩
  have hs1 := nrm p l c a h1 la
  have hs2 := nrm q k d b h2 lb
  clear nrm h1 h2 la lb
  go_enter Tryz.func75, Tryz.ntmps75
  go_wp2
  generalize hW : ((w.alloc (.cells #[.bool true, .slice p l c, .slice q k d] 49)).alloc (.cells #[.bool false, .slice none 0 0, .slice none 0 0] 49)) = W
  have kw : Kp w W := by rw [← hW]; exact ((Kp.refl w).alloc _).alloc _
  have xw0 : W.cell? ⟨w.heap.size, 0, none⟩ = some (.bool true) := by rw [← hW]; simp [go_sem]
  have dw0 : W.drew.cell? ⟨w.heap.size, 0, none⟩ = some (.bool true) := xw0
  have xw1 : W.cell? ⟨w.heap.size, 1, none⟩ = some (.slice p l c) := by rw [← hW]; simp [go_sem]
  have dw1 : W.drew.cell? ⟨w.heap.size, 1, none⟩ = some (.slice p l c) := xw1
  have xw2 : W.cell? ⟨w.heap.size, 2, none⟩ = some (.slice q k d) := by rw [← hW]; simp [go_sem]
  have dw2 : W.drew.cell? ⟨w.heap.size, 2, none⟩ = some (.slice q k d) := xw2
  have r0 : W.cell? ⟨w.heap.size + 1, 0, none⟩ = some (.bool false) := by rw [← hW]; simp [go_sem]
  have rz0 : W.frozen? ⟨w.heap.size + 1, 0, none⟩ = false := by rw [← hW]; simp [go_sem]
  have r1 : W.cell? ⟨w.heap.size + 1, 1, none⟩ = some (.slice none 0 0) := by rw [← hW]; simp [go_sem]
  have rz1 : W.frozen? ⟨w.heap.size + 1, 1, none⟩ = false := by rw [← hW]; simp [go_sem]
  have r2 : W.cell? ⟨w.heap.size + 1, 2, none⟩ = some (.slice none 0 0) := by rw [← hW]; simp [go_sem]
  have rz2 : W.frozen? ⟨w.heap.size + 1, 2, none⟩ = false := by rw [← hW]; simp [go_sem]
  have hBW : w.heap.size + 1 < W.heap.size := cell_lt r0
  have hn1 : w.heap.size + 1 ≠ w.heap.size := by omega
  clear hW
  refine wp_region_held_drew (S := (fun w' => w'.cell? ⟨w.heap.size, 0, none⟩ = some (.bool true) ∧ w'.cell? ⟨w.heap.size, 1, none⟩ = some (.slice p l c) ∧ w'.cell? ⟨w.heap.size, 2, none⟩ = some (.slice q k d))) (by kernel_rfl) ?_ (fun hHeld => ?_)
  · exact ⟨dw0, dw1, dw2⟩
  refine wpAnyH_take (i := 0) (v := .pointer (some ⟨w.heap.size, 0, none⟩)) rfl (by kernel_rfl) (by kernel_rfl) (by kernel_rfl) (fun _ _ _ h => h) (Or.inl ⟨by rfl, ?_⟩) (by assumption) ?_
  · intro w hSw
    (try dsimp only at hSw)
    go_simp
  try simp only [Act.put, List.getElem_toArray, List.getElem_cons_zero, List.getElem_cons_succ, List.setIfInBounds_toArray, List.set_cons_zero, List.set_cons_succ]
  refine wpAnyH_take (i := 1) (v := .bool true) rfl (by kernel_rfl) (by kernel_rfl) (by kernel_rfl) (fun _ _ _ h => h) (Or.inl ⟨by rfl, ?_⟩) (by assumption) ?_
  · intro w hSw
    (try dsimp only at hSw)
    go_simp
  try simp only [Act.put, List.getElem_toArray, List.getElem_cons_zero, List.getElem_cons_succ, List.setIfInBounds_toArray, List.set_cons_zero, List.set_cons_succ]
  refine wpAnyH_take (i := 2) (v := .bool false) rfl (by kernel_rfl) (by kernel_rfl) (by kernel_rfl) (fun _ _ _ h => h) (Or.inl ⟨by rfl, ?_⟩) (by assumption) ?_
  · intro w hSw
    (try dsimp only at hSw)
    go_simp
  try simp only [Act.put, List.getElem_toArray, List.getElem_cons_zero, List.getElem_cons_succ, List.setIfInBounds_toArray, List.set_cons_zero, List.set_cons_succ]
  refine wpAnyH_take (i := 3) (v := .bool false) rfl (by kernel_rfl) (by kernel_rfl) (by kernel_rfl) (fun _ _ _ h => h) (Or.inl ⟨by rfl, ?_⟩) (by assumption) ?_
  · intro w hSw
    (try dsimp only at hSw)
    go_simp
  try simp only [Act.put, List.getElem_toArray, List.getElem_cons_zero, List.getElem_cons_succ, List.setIfInBounds_toArray, List.set_cons_zero, List.set_cons_succ]
  refine wpAnyH_take (i := 4) (v := undef) rfl (by kernel_rfl) (by kernel_rfl) (by kernel_rfl) (fun _ _ _ h => h) (Or.inr ⟨by rfl, rfl⟩) (by assumption) ?_
  try simp only [Act.put, List.getElem_toArray, List.getElem_cons_zero, List.getElem_cons_succ, List.setIfInBounds_toArray, List.set_cons_zero, List.set_cons_succ]
  refine wpAnyH_take (i := 5) (v := undef) rfl (by kernel_rfl) (by kernel_rfl) (by kernel_rfl) (fun _ _ _ h => h) (Or.inr ⟨by rfl, rfl⟩) (by assumption) ?_
  try simp only [Act.put, List.getElem_toArray, List.getElem_cons_zero, List.getElem_cons_succ, List.setIfInBounds_toArray, List.set_cons_zero, List.set_cons_succ]
  refine wpAnyH_take (i := 6) (v := undef) rfl (by kernel_rfl) (by kernel_rfl) (by kernel_rfl) (fun _ _ _ h => h) (Or.inr ⟨by rfl, rfl⟩) (by assumption) ?_
  try simp only [Act.put, List.getElem_toArray, List.getElem_cons_zero, List.getElem_cons_succ, List.setIfInBounds_toArray, List.set_cons_zero, List.set_cons_succ]
  refine wpAnyH_take (i := 7) (v := undef) rfl (by kernel_rfl) (by kernel_rfl) (by kernel_rfl) (fun _ _ _ h => h) (Or.inr ⟨by rfl, rfl⟩) (by assumption) ?_
  try simp only [Act.put, List.getElem_toArray, List.getElem_cons_zero, List.getElem_cons_succ, List.setIfInBounds_toArray, List.set_cons_zero, List.set_cons_succ]
  refine wpAnyH_take (i := 8) (v := .bool false) rfl (by kernel_rfl) (by kernel_rfl) (by kernel_rfl) (fun _ _ _ h => h) (Or.inl ⟨by rfl, ?_⟩) (by assumption) ?_
  · intro w hSw
    (try dsimp only at hSw)
    go_simp
  try simp only [Act.put, List.getElem_toArray, List.getElem_cons_zero, List.getElem_cons_succ, List.setIfInBounds_toArray, List.set_cons_zero, List.set_cons_succ]
  refine wpAnyH_take (i := 9) (v := .pointer (some ⟨w.heap.size, 1, none⟩)) rfl (by kernel_rfl) (by kernel_rfl) (by kernel_rfl) (fun _ _ _ h => h) (Or.inl ⟨by rfl, ?_⟩) (by assumption) ?_
  · intro w hSw
    (try dsimp only at hSw)
    go_simp
  try simp only [Act.put, List.getElem_toArray, List.getElem_cons_zero, List.getElem_cons_succ, List.setIfInBounds_toArray, List.set_cons_zero, List.set_cons_succ]
  refine wpAnyH_take (i := 10) (v := .slice p l c) rfl (by kernel_rfl) (by kernel_rfl) (by kernel_rfl) (fun _ _ _ h => h) (Or.inl ⟨by rfl, ?_⟩) (by assumption) ?_
  · intro w hSw
    (try dsimp only at hSw)
    go_simp
  try simp only [Act.put, List.getElem_toArray, List.getElem_cons_zero, List.getElem_cons_succ, List.setIfInBounds_toArray, List.set_cons_zero, List.set_cons_succ]
  refine wpAnyH_take (i := 12) (v := .pointer (some ⟨w.heap.size, 2, none⟩)) rfl (by kernel_rfl) (by kernel_rfl) (by kernel_rfl) (fun _ _ _ h => h) (Or.inl ⟨by rfl, ?_⟩) (by assumption) ?_
  · intro w hSw
    (try dsimp only at hSw)
    go_simp
  try simp only [Act.put, List.getElem_toArray, List.getElem_cons_zero, List.getElem_cons_succ, List.setIfInBounds_toArray, List.set_cons_zero, List.set_cons_succ]
  refine wpAnyH_take (i := 13) (v := .slice q k d) rfl (by kernel_rfl) (by kernel_rfl) (by kernel_rfl) (fun _ _ _ h => h) (Or.inl ⟨by rfl, ?_⟩) (by assumption) ?_
  · intro w hSw
    (try dsimp only at hSw)
    go_simp
  try simp only [Act.put, List.getElem_toArray, List.getElem_cons_zero, List.getElem_cons_succ, List.setIfInBounds_toArray, List.set_cons_zero, List.set_cons_succ]
  refine wpAnyH_ready (rs := [11]) (by kernel_rfl) (by simp) ?_
  refine AllReadyH.cons rfl (fun K hK => ?_) AllReadyH.nil
  go_simp
  go_at_call_of 105 (Value.slice p l c); refine (hs1 _ ?q0).mono ?_; (case q0 => exact kw.drew); rintro e wl ⟨p2, l2, c2, rfl, ho1, gl⟩; have kl : Kp W wl := Kp.trans (Kp.drew (Kp.refl _)) gl; have aw0 := kkeep kl xw0; have aw1 := kkeep kl xw1; have aw2 := kkeep kl xw2
  go_wp2_with fail
  refine hK.out _ _ ?_ (fun hHeld => ?_)
  · exact ⟨aw0, aw1, aw2⟩
  clear hK K
  try simp only [Act.put, List.getElem_toArray, List.getElem_cons_zero, List.getElem_cons_succ, List.setIfInBounds_toArray, List.set_cons_zero, List.set_cons_succ]
  refine wpAnyH_ready (rs := [14]) (by kernel_rfl) (by simp) ?_
  refine AllReadyH.cons rfl (fun K hK => ?_) AllReadyH.nil
  go_simp
  go_at_call_of 105 (Value.slice q k d); refine (hs2 _ ?q0).mono ?_; (case q0 => exact kw.trans kl); rintro e wh ⟨q2, k2, d2, rfl, ho2, gh⟩; have kh : Kp W wh := Kp.trans kl gh; have bw0 := kkeep kh xw0; have bw1 := kkeep kh xw1; have bw2 := kkeep kh xw2; have R0 := kkeep kh r0; have Rz0 : wh.frozen? ⟨w.heap.size + 1, 0, none⟩ = false := (kfro kh (cell_lt r0)).trans rz0; have R1 := kkeep kh r1; have Rz1 : wh.frozen? ⟨w.heap.size + 1, 1, none⟩ = false := (kfro kh (cell_lt r1)).trans rz1; have R2 := kkeep kh r2; have Rz2 : wh.frozen? ⟨w.heap.size + 1, 2, none⟩ = false := (kfro kh (cell_lt r2)).trans rz2
  go_wp2_with fail
  refine hK.out _ _ ?_ (fun hHeld => ?_)
  · exact ⟨bw0, bw1, bw2⟩
  clear hK K
  try simp only [Act.put, List.getElem_toArray, List.getElem_cons_zero, List.getElem_cons_succ, List.setIfInBounds_toArray, List.set_cons_zero, List.set_cons_succ]
  refine wpAnyH_take (i := 15) (v := .agg #[.bool false, .slice p2 l2 c2, .slice q2 k2 d2]) rfl (by kernel_rfl) (by kernel_rfl) (by kernel_rfl) (fun _ _ _ h => h) (Or.inl ⟨by rfl, ?_⟩) (by assumption) ?_
  · intro w hSw
    (try dsimp only at hSw)
    go_simp
  try simp only [Act.put, List.getElem_toArray, List.getElem_cons_zero, List.getElem_cons_succ, List.setIfInBounds_toArray, List.set_cons_zero, List.set_cons_succ]
  refine wpAnyH_ready (rs := [16]) (by kernel_rfl) (by simp) ?_
  refine AllReadyH.cons rfl (fun K hK => ?_) AllReadyH.nil
  go_simp
  refine hK.out _ _ ?_ (fun hHeld => ?_)
  · exact ⟨((World.cell?_setCell_far _ _ _ _ hn1).trans ((World.cell?_setCell_far _ _ _ _ hn1).trans ((World.cell?_setCell_far _ _ _ _ hn1).trans bw0))), ((World.cell?_setCell_far _ _ _ _ hn1).trans ((World.cell?_setCell_far _ _ _ _ hn1).trans ((World.cell?_setCell_far _ _ _ _ hn1).trans bw1))), ((World.cell?_setCell_far _ _ _ _ hn1).trans ((World.cell?_setCell_far _ _ _ _ hn1).trans ((World.cell?_setCell_far _ _ _ _ hn1).trans bw2)))⟩
  clear hK K
  try simp only [Act.put, List.getElem_toArray, List.getElem_cons_zero, List.getElem_cons_succ, List.setIfInBounds_toArray, List.set_cons_zero, List.set_cons_succ]
  refine wpAnyH_done (by kernel_rfl) ?_ _
  all_goals go_wp2
  all_goals (
    have hle : w.heap.size ≤ W.heap.size := by omega
    have O1 : Own wh W.heap.size (.slice p2 l2 c2) (dig a) := (ho1.mono (base' := W.heap.size) (Nat.le_refl _)).kp gh
    have O2 : Own wh W.heap.size (.slice q2 k2 d2) (dig b) := ho2.mono (base' := W.heap.size) (Below.size kl)
    exact bodyPost_ret (v := .agg #[.bool false, .slice p2 l2 c2, .slice q2 k2 d2]) (by simp [results, Tryz.results75, go_sem, R0, R1, R2]) rfl ⟨p2, l2, c2, q2, k2, d2, rfl, (((O1.setOther (a := ⟨w.heap.size + 1, 0, none⟩) hBW _).setOther (a := ⟨w.heap.size + 1, 1, none⟩) hBW _).setOther (a := ⟨w.heap.size + 1, 2, none⟩) hBW _).mono hle, (((O2.setOther (a := ⟨w.heap.size + 1, 0, none⟩) hBW _).setOther (a := ⟨w.heap.size + 1, 1, none⟩) hBW _).setOther (a := ⟨w.heap.size + 1, 2, none⟩) hBW _).mono hle, ((((Kp.trans kw kh)).setCell (by simp) _).setCell (by simp) _).setCell (by simp) _⟩)
set_option maxRecDepth 20000 in
set_option maxHeartbeats 1000000 in
theorem rnegXP_ (p : Option Addr) (l c : Nat) (q : Option Addr) (k d : Nat) (a b : Nat) (w : World) (h1 : Own w 0 (.slice p l c) (dig a)) (h2 : Own w 0 (.slice q k d) (dig b)) (la : blen a ≤ 100000) (lb : blen b ≤ 100000) (t1 : 0 < l) : Calls Tryz.prog 75 #[.agg #[.bool false, .slice p l c, .slice q k d]] w fun e w' => ∃ (p2 : Option Addr) (l2 c2 : Nat) (q2 : Option Addr) (k2 d2 : Nat), e = .returned (.agg #[.bool true, .slice p2 l2 c2, .slice q2 k2 d2]) ∧ Own w' w.heap.size (.slice p2 l2 c2) (dig a) ∧ Own w' w.heap.size (.slice q2 k2 d2) (dig b) ∧ Kp w w' := by
  have nrm : ∀ (pp : Option Addr) (ll cc : Nat) (x : Nat), Own w 0 (.slice pp ll cc) (dig x) → blen x ≤ 100000 → ∀ W : World, Kp w W → Calls Tryz.prog 105 #[.slice pp ll cc] W fun e w' => ∃ (p2 : Option Addr) (l2 c2 : Nat), e = .returned (.slice p2 l2 c2) ∧ Own w' W.heap.size (.slice p2 l2 c2) (dig x) ∧ Kp W w' := by
    intro pp ll cc x h hx W g
    have hl : (dig x).length ≤ 1048576 := Nat.le_trans (show len32 x ≤ 4000 from dlen x 4000 (by omega)) (by decide)
    have h := normO (.slice pp ll cc) (dig x) W (h.kp g).ls (Wd_dig _) hl
    rw [val_dig] at h
    refine h.mono ?_
    rintro e w' ⟨v', rfl, o1, g2⟩
    obtain ⟨p2, c2, rfl, -, -⟩ := o1.arr
    exact ⟨p2, _, c2, rfl, o1, g2⟩
  have hs1 := nrm p l c a h1 la
  have hs2 := nrm q k d b h2 lb
  clear nrm h1 h2 la lb
  go_enter Tryz.func75, Tryz.ntmps75
  go_wp2
  generalize hW : ((w.alloc (.cells #[.bool false, .slice p l c, .slice q k d] 49)).alloc (.cells #[.bool false, .slice none 0 0, .slice none 0 0] 49)) = W
  have kw : Kp w W := by rw [← hW]; exact ((Kp.refl w).alloc _).alloc _
  have xw0 : W.cell? ⟨w.heap.size, 0, none⟩ = some (.bool false) := by rw [← hW]; simp [go_sem]
  have dw0 : W.drew.cell? ⟨w.heap.size, 0, none⟩ = some (.bool false) := xw0
  have xw1 : W.cell? ⟨w.heap.size, 1, none⟩ = some (.slice p l c) := by rw [← hW]; simp [go_sem]
  have dw1 : W.drew.cell? ⟨w.heap.size, 1, none⟩ = some (.slice p l c) := xw1
  have xw2 : W.cell? ⟨w.heap.size, 2, none⟩ = some (.slice q k d) := by rw [← hW]; simp [go_sem]
  have dw2 : W.drew.cell? ⟨w.heap.size, 2, none⟩ = some (.slice q k d) := xw2
  have r0 : W.cell? ⟨w.heap.size + 1, 0, none⟩ = some (.bool false) := by rw [← hW]; simp [go_sem]
  have rz0 : W.frozen? ⟨w.heap.size + 1, 0, none⟩ = false := by rw [← hW]; simp [go_sem]
  have r1 : W.cell? ⟨w.heap.size + 1, 1, none⟩ = some (.slice none 0 0) := by rw [← hW]; simp [go_sem]
  have rz1 : W.frozen? ⟨w.heap.size + 1, 1, none⟩ = false := by rw [← hW]; simp [go_sem]
  have r2 : W.cell? ⟨w.heap.size + 1, 2, none⟩ = some (.slice none 0 0) := by rw [← hW]; simp [go_sem]
  have rz2 : W.frozen? ⟨w.heap.size + 1, 2, none⟩ = false := by rw [← hW]; simp [go_sem]
  have hBW : w.heap.size + 1 < W.heap.size := cell_lt r0
  have hn1 : w.heap.size + 1 ≠ w.heap.size := by omega
  clear hW
  go_region_held3 (fun w' => w'.cell? ⟨w.heap.size, 0, none⟩ = some (.bool false) ∧ w'.cell? ⟨w.heap.size, 1, none⟩ = some (.slice p l c) ∧ w'.cell? ⟨w.heap.size, 2, none⟩ = some (.slice q k d)) (first | (with_reducible exact ⟨xw0, xw1, xw2⟩) | (with_reducible exact ⟨dw0, dw1, dw2⟩) | (with_reducible exact ⟨aw0, aw1, aw2⟩) | (with_reducible exact ⟨bw0, bw1, bw2⟩) | (exact ⟨((World.cell?_setCell_far _ _ _ _ hn1).trans ((World.cell?_setCell_far _ _ _ _ hn1).trans ((World.cell?_setCell_far _ _ _ _ hn1).trans bw0))), ((World.cell?_setCell_far _ _ _ _ hn1).trans ((World.cell?_setCell_far _ _ _ _ hn1).trans ((World.cell?_setCell_far _ _ _ _ hn1).trans bw1))), ((World.cell?_setCell_far _ _ _ _ hn1).trans ((World.cell?_setCell_far _ _ _ _ hn1).trans ((World.cell?_setCell_far _ _ _ _ hn1).trans bw2)))⟩)) (first | (go_at_call_of 105 (Value.slice p l c); refine (hs1 _ ?q0).mono ?_; (case q0 => exact kw.drew); rintro e wl ⟨p2, l2, c2, rfl, ho1, gl⟩; have kl : Kp W wl := Kp.trans (Kp.drew (Kp.refl _)) gl; have aw0 := kkeep kl xw0; have aw1 := kkeep kl xw1; have aw2 := kkeep kl xw2) | (go_at_call_of 105 (Value.slice q k d); refine (hs2 _ ?q0).mono ?_; (case q0 => exact kw.trans kl); rintro e wh ⟨q2, k2, d2, rfl, ho2, gh⟩; have kh : Kp W wh := Kp.trans kl gh; have bw0 := kkeep kh xw0; have bw1 := kkeep kh xw1; have bw2 := kkeep kh xw2; have R0 := kkeep kh r0; have Rz0 : wh.frozen? ⟨w.heap.size + 1, 0, none⟩ = false := (kfro kh (cell_lt r0)).trans rz0; have R1 := kkeep kh r1; have Rz1 : wh.frozen? ⟨w.heap.size + 1, 1, none⟩ = false := (kfro kh (cell_lt r1)).trans rz1; have R2 := kkeep kh r2; have Rz2 : wh.frozen? ⟨w.heap.size + 1, 2, none⟩ = false := (kfro kh (cell_lt r2)).trans rz2))
  all_goals go_wp2
  all_goals (
    have hle : w.heap.size ≤ W.heap.size := by omega
    have O1 : Own wh W.heap.size (.slice p2 l2 c2) (dig a) := (ho1.mono (base' := W.heap.size) (Nat.le_refl _)).kp gh
    have O2 : Own wh W.heap.size (.slice q2 k2 d2) (dig b) := ho2.mono (base' := W.heap.size) (Below.size kl)
    exact bodyPost_ret (v := .agg #[.bool true, .slice p2 l2 c2, .slice q2 k2 d2]) (by simp [results, Tryz.results75, go_sem, R0, R1, R2]) rfl ⟨p2, l2, c2, q2, k2, d2, rfl, (((O1.setOther (a := ⟨w.heap.size + 1, 0, none⟩) hBW _).setOther (a := ⟨w.heap.size + 1, 1, none⟩) hBW _).setOther (a := ⟨w.heap.size + 1, 2, none⟩) hBW _).mono hle, (((O2.setOther (a := ⟨w.heap.size + 1, 0, none⟩) hBW _).setOther (a := ⟨w.heap.size + 1, 1, none⟩) hBW _).setOther (a := ⟨w.heap.size + 1, 2, none⟩) hBW _).mono hle, ((((Kp.trans kw kh)).setCell (by simp) _).setCell (by simp) _).setCell (by simp) _⟩)
set_option maxRecDepth 20000 in
set_option maxHeartbeats 1000000 in
theorem rnegXZ_ (p : Option Addr) (l c : Nat) (q : Option Addr) (k d : Nat) (a b : Nat) (w : World) (h1 : Own w 0 (.slice p l c) (dig a)) (h2 : Own w 0 (.slice q k d) (dig b)) (la : blen a ≤ 100000) (lb : blen b ≤ 100000) (t1 : ¬ (0 < l)) : Calls Tryz.prog 75 #[.agg #[.bool false, .slice p l c, .slice q k d]] w fun e w' => ∃ (p2 : Option Addr) (l2 c2 : Nat) (q2 : Option Addr) (k2 d2 : Nat), e = .returned (.agg #[.bool false, .slice p2 l2 c2, .slice q2 k2 d2]) ∧ Own w' w.heap.size (.slice p2 l2 c2) (dig a) ∧ Own w' w.heap.size (.slice q2 k2 d2) (dig b) ∧ Kp w w' := by
  have nrm : ∀ (pp : Option Addr) (ll cc : Nat) (x : Nat), Own w 0 (.slice pp ll cc) (dig x) → blen x ≤ 100000 → ∀ W : World, Kp w W → Calls Tryz.prog 105 #[.slice pp ll cc] W fun e w' => ∃ (p2 : Option Addr) (l2 c2 : Nat), e = .returned (.slice p2 l2 c2) ∧ Own w' W.heap.size (.slice p2 l2 c2) (dig x) ∧ Kp W w' := by
    intro pp ll cc x h hx W g
    have hl : (dig x).length ≤ 1048576 := Nat.le_trans (show len32 x ≤ 4000 from dlen x 4000 (by omega)) (by decide)
    have h := normO (.slice pp ll cc) (dig x) W (h.kp g).ls (Wd_dig _) hl
    rw [val_dig] at h
    refine h.mono ?_
    rintro e w' ⟨v', rfl, o1, g2⟩
    obtain ⟨p2, c2, rfl, -, -⟩ := o1.arr
    exact ⟨p2, _, c2, rfl, o1, g2⟩
  have hs1 := nrm p l c a h1 la
  have hs2 := nrm q k d b h2 lb
  clear nrm h1 h2 la lb
  go_enter Tryz.func75, Tryz.ntmps75
  go_wp2
  generalize hW : ((w.alloc (.cells #[.bool false, .slice p l c, .slice q k d] 49)).alloc (.cells #[.bool false, .slice none 0 0, .slice none 0 0] 49)) = W
  have kw : Kp w W := by rw [← hW]; exact ((Kp.refl w).alloc _).alloc _
  have xw0 : W.cell? ⟨w.heap.size, 0, none⟩ = some (.bool false) := by rw [← hW]; simp [go_sem]
  have dw0 : W.drew.cell? ⟨w.heap.size, 0, none⟩ = some (.bool false) := xw0
  have xw1 : W.cell? ⟨w.heap.size, 1, none⟩ = some (.slice p l c) := by rw [← hW]; simp [go_sem]
  have dw1 : W.drew.cell? ⟨w.heap.size, 1, none⟩ = some (.slice p l c) := xw1
  have xw2 : W.cell? ⟨w.heap.size, 2, none⟩ = some (.slice q k d) := by rw [← hW]; simp [go_sem]
  have dw2 : W.drew.cell? ⟨w.heap.size, 2, none⟩ = some (.slice q k d) := xw2
  have r0 : W.cell? ⟨w.heap.size + 1, 0, none⟩ = some (.bool false) := by rw [← hW]; simp [go_sem]
  have rz0 : W.frozen? ⟨w.heap.size + 1, 0, none⟩ = false := by rw [← hW]; simp [go_sem]
  have r1 : W.cell? ⟨w.heap.size + 1, 1, none⟩ = some (.slice none 0 0) := by rw [← hW]; simp [go_sem]
  have rz1 : W.frozen? ⟨w.heap.size + 1, 1, none⟩ = false := by rw [← hW]; simp [go_sem]
  have r2 : W.cell? ⟨w.heap.size + 1, 2, none⟩ = some (.slice none 0 0) := by rw [← hW]; simp [go_sem]
  have rz2 : W.frozen? ⟨w.heap.size + 1, 2, none⟩ = false := by rw [← hW]; simp [go_sem]
  have hBW : w.heap.size + 1 < W.heap.size := cell_lt r0
  have hn1 : w.heap.size + 1 ≠ w.heap.size := by omega
  clear hW
  go_region_held3 (fun w' => w'.cell? ⟨w.heap.size, 0, none⟩ = some (.bool false) ∧ w'.cell? ⟨w.heap.size, 1, none⟩ = some (.slice p l c) ∧ w'.cell? ⟨w.heap.size, 2, none⟩ = some (.slice q k d)) (first | (with_reducible exact ⟨xw0, xw1, xw2⟩) | (with_reducible exact ⟨dw0, dw1, dw2⟩) | (with_reducible exact ⟨aw0, aw1, aw2⟩) | (with_reducible exact ⟨bw0, bw1, bw2⟩) | (exact ⟨((World.cell?_setCell_far _ _ _ _ hn1).trans ((World.cell?_setCell_far _ _ _ _ hn1).trans ((World.cell?_setCell_far _ _ _ _ hn1).trans bw0))), ((World.cell?_setCell_far _ _ _ _ hn1).trans ((World.cell?_setCell_far _ _ _ _ hn1).trans ((World.cell?_setCell_far _ _ _ _ hn1).trans bw1))), ((World.cell?_setCell_far _ _ _ _ hn1).trans ((World.cell?_setCell_far _ _ _ _ hn1).trans ((World.cell?_setCell_far _ _ _ _ hn1).trans bw2)))⟩)) (first | (go_at_call_of 105 (Value.slice p l c); refine (hs1 _ ?q0).mono ?_; (case q0 => exact kw.drew); rintro e wl ⟨p2, l2, c2, rfl, ho1, gl⟩; have kl : Kp W wl := Kp.trans (Kp.drew (Kp.refl _)) gl; have aw0 := kkeep kl xw0; have aw1 := kkeep kl xw1; have aw2 := kkeep kl xw2) | (go_at_call_of 105 (Value.slice q k d); refine (hs2 _ ?q0).mono ?_; (case q0 => exact kw.trans kl); rintro e wh ⟨q2, k2, d2, rfl, ho2, gh⟩; have kh : Kp W wh := Kp.trans kl gh; have bw0 := kkeep kh xw0; have bw1 := kkeep kh xw1; have bw2 := kkeep kh xw2; have R0 := kkeep kh r0; have Rz0 : wh.frozen? ⟨w.heap.size + 1, 0, none⟩ = false := (kfro kh (cell_lt r0)).trans rz0; have R1 := kkeep kh r1; have Rz1 : wh.frozen? ⟨w.heap.size + 1, 1, none⟩ = false := (kfro kh (cell_lt r1)).trans rz1; have R2 := kkeep kh r2; have Rz2 : wh.frozen? ⟨w.heap.size + 1, 2, none⟩ = false := (kfro kh (cell_lt r2)).trans rz2))
  all_goals go_wp2
  all_goals (
    have hle : w.heap.size ≤ W.heap.size := by omega
    have O1 : Own wh W.heap.size (.slice p2 l2 c2) (dig a) := (ho1.mono (base' := W.heap.size) (Nat.le_refl _)).kp gh
    have O2 : Own wh W.heap.size (.slice q2 k2 d2) (dig b) := ho2.mono (base' := W.heap.size) (Below.size kl)
    exact bodyPost_ret (v := .agg #[.bool false, .slice p2 l2 c2, .slice q2 k2 d2]) (by simp [results, Tryz.results75, go_sem, R0, R1, R2]) rfl ⟨p2, l2, c2, q2, k2, d2, rfl, (((O1.setOther (a := ⟨w.heap.size + 1, 0, none⟩) hBW _).setOther (a := ⟨w.heap.size + 1, 1, none⟩) hBW _).setOther (a := ⟨w.heap.size + 1, 2, none⟩) hBW _).mono hle, (((O2.setOther (a := ⟨w.heap.size + 1, 0, none⟩) hBW _).setOther (a := ⟨w.heap.size + 1, 1, none⟩) hBW _).setOther (a := ⟨w.heap.size + 1, 2, none⟩) hBW _).mono hle, ((((Kp.trans kw kh)).setCell (by simp) _).setCell (by simp) _).setCell (by simp) _⟩)
theorem xneg_ (V : Int) (C N : Nat) (hN : N ≤ 100000) (s : Bool) (p : Option Addr) (l c : Nat) (q : Option Addr) (k d : Nat) (B1 : Nat) (w : World) (h : XP B1 w s p l c q k d V C N) : Calls Tryz.prog 75 #[.agg #[.bool s, .slice p l c, .slice q k d]] w fun e w' => ∃ (s2 : Bool) (p2 : Option Addr) (l2 c2 : Nat) (q2 : Option Addr) (k2 d2 : Nat), e = .returned (.agg #[.bool s2, .slice p2 l2 c2, .slice q2 k2 d2]) ∧ XP w.heap.size w' s2 p2 l2 c2 q2 k2 d2 (-V) C N ∧ Kp w w' := by
  obtain ⟨a, b, u1, u2, u3⟩ := h
  have hl : l = (dig a).length := by
    obtain ⟨P1, C1, e1, -, -⟩ := u1.arr
    injection e1
  have key : ∀ (s2 : Bool), (a ≠ 0 → s2 = !s) → XF s2 a b (-V) C N := by
    intro s2 hs
    obtain ⟨f1, f2, f3, f4, f5⟩ := u3
    refine ⟨f1, f2, ?_, f4, f5⟩
    rw [Int.neg_mul, ← f3, ← Int.neg_mul]
    congr 1
    by_cases z : a = 0
    · rw [z]; unfold rvI; cases s <;> cases s2 <;> simp
    · rw [hs z]; unfold rvI; cases s <;> simp
  have hl0 : a ≠ 0 → 0 < l := fun h0 => by
    rw [hl]
    rcases Nat.eq_zero_or_pos (dig a).length with z | z
    · have := List.eq_nil_of_length_eq_zero z
      have e := val_dig a
      rw [this] at e
      exact absurd e.symm h0
    · exact z
  have u1 := u1.mono (Nat.zero_le B1)
  have u2 := u2.mono (Nat.zero_le B1)
  have n1 : blen a ≤ 100000 := by have := u3.2.2.2.1; omega
  have n2 : blen b ≤ 100000 := by have := u3.2.2.2.2; omega
  cases s
  · by_cases t1 : 0 < l
    · refine (rnegXP_ p l c q k d a b w u1 u2 n1 n2 t1).mono ?_
      rintro e w' ⟨p2, l2, c2, q2, k2, d2, rfl, o1, o2, g⟩
      exact ⟨true, p2, l2, c2, q2, k2, d2, rfl, ⟨a, b, o1, o2, key true (fun _ => rfl)⟩, g⟩
    · refine (rnegXZ_ p l c q k d a b w u1 u2 n1 n2 t1).mono ?_
      rintro e w' ⟨p2, l2, c2, q2, k2, d2, rfl, o1, o2, g⟩
      exact ⟨false, p2, l2, c2, q2, k2, d2, rfl, ⟨a, b, o1, o2, key false (fun h0 => absurd (hl0 h0) t1)⟩, g⟩
  · refine (rnegXT_ p l c q k d a b w u1 u2 n1 n2).mono ?_
    rintro e w' ⟨p2, l2, c2, q2, k2, d2, rfl, o1, o2, g⟩
    exact ⟨false, p2, l2, c2, q2, k2, d2, rfl, ⟨a, b, o1, o2, key false (fun _ => rfl)⟩, g⟩
end Go.Proofs.YthdnajcgdngmcaaGreatDoor
namespace Go.Proofs.YthdnajcgdngmcaaGreatDoor
open Go.RowKit
set_option maxRecDepth 20000 in
set_option maxHeartbeats 1000000 in
theorem rsubA_ (P : World → World → Value → Prop) (Q : World → World → Value → Prop) (s : Bool) (p : Option Addr) (l c : Nat) (q : Option Addr) (k d : Nat) (s2 : Bool) (p2 : Option Addr) (l2 c2 : Nat) (q2 : Option Addr) (k2 d2 : Nat) (w : World) (hN : ∀ W : World, Kp w W → Calls Tryz.prog 75 #[.agg #[.bool s2, .slice p2 l2 c2, .slice q2 k2 d2]] W fun e w' => ∃ (s5 : Bool) (p5 : Option Addr) (l5 c5 : Nat) (q5 : Option Addr) (k5 d5 : Nat), e = .returned (.agg #[.bool s5, .slice p5 l5 c5, .slice q5 k5 d5]) ∧ P w w' (.agg #[.bool s5, .slice p5 l5 c5, .slice q5 k5 d5]) ∧ Kp W w') (hA : ∀ (W : World) (s5 : Bool) (p5 : Option Addr) (l5 c5 : Nat) (q5 : Option Addr) (k5 d5 : Nat), Kp w W → P w W (.agg #[.bool s5, .slice p5 l5 c5, .slice q5 k5 d5]) → Calls Tryz.prog 74 #[.agg #[.bool s, .slice p l c, .slice q k d], .agg #[.bool s5, .slice p5 l5 c5, .slice q5 k5 d5]] W fun e w' => ∃ (s3 : Bool) (p3 : Option Addr) (l3 c3 : Nat) (q3 : Option Addr) (k3 d3 : Nat), e = .returned (.agg #[.bool s3, .slice p3 l3 c3, .slice q3 k3 d3]) ∧ Q W w' (.agg #[.bool s3, .slice p3 l3 c3, .slice q3 k3 d3]) ∧ Kp W w') : Calls Tryz.prog 38 #[.agg #[.bool s, .slice p l c, .slice q k d], .agg #[.bool s2, .slice p2 l2 c2, .slice q2 k2 d2]] w fun e w' => ∃ (W wh : World) (s3 : Bool) (p3 : Option Addr) (l3 c3 : Nat) (q3 : Option Addr) (k3 d3 : Nat), e = .returned (.agg #[.bool s3, .slice p3 l3 c3, .slice q3 k3 d3]) ∧ Q W wh (.agg #[.bool s3, .slice p3 l3 c3, .slice q3 k3 d3]) ∧ w' = (((wh).setCell ⟨w.heap.size + 2, 0, none⟩ (.bool s3)).setCell ⟨w.heap.size + 2, 1, none⟩ (.slice p3 l3 c3)).setCell ⟨w.heap.size + 2, 2, none⟩ (.slice q3 k3 d3) ∧ w.heap.size + 2 < W.heap.size ∧ Kp w wh := by
  go_enter Tryz.func38, Tryz.ntmps38
  go_wp2
  generalize hW : (((w.alloc (.cells #[.bool s, .slice p l c, .slice q k d] 49)).alloc (.cells #[.bool s2, .slice p2 l2 c2, .slice q2 k2 d2] 49)).alloc (.cells #[.bool false, .slice none 0 0, .slice none 0 0] 49)) = W
  have kw : Kp w W := by rw [← hW]; exact (((Kp.refl w).alloc _).alloc _).alloc _
  have xw0 : W.cell? ⟨w.heap.size, 0, none⟩ = some (.bool s) := by rw [← hW]; simp [go_sem]
  have dw0 : W.drew.cell? ⟨w.heap.size, 0, none⟩ = some (.bool s) := xw0
  have xw1 : W.cell? ⟨w.heap.size, 1, none⟩ = some (.slice p l c) := by rw [← hW]; simp [go_sem]
  have dw1 : W.drew.cell? ⟨w.heap.size, 1, none⟩ = some (.slice p l c) := xw1
  have xw2 : W.cell? ⟨w.heap.size, 2, none⟩ = some (.slice q k d) := by rw [← hW]; simp [go_sem]
  have dw2 : W.drew.cell? ⟨w.heap.size, 2, none⟩ = some (.slice q k d) := xw2
  have xw3 : W.cell? ⟨w.heap.size + 1, 0, none⟩ = some (.bool s2) := by rw [← hW]; simp [go_sem]
  have dw3 : W.drew.cell? ⟨w.heap.size + 1, 0, none⟩ = some (.bool s2) := xw3
  have xw4 : W.cell? ⟨w.heap.size + 1, 1, none⟩ = some (.slice p2 l2 c2) := by rw [← hW]; simp [go_sem]
  have dw4 : W.drew.cell? ⟨w.heap.size + 1, 1, none⟩ = some (.slice p2 l2 c2) := xw4
  have xw5 : W.cell? ⟨w.heap.size + 1, 2, none⟩ = some (.slice q2 k2 d2) := by rw [← hW]; simp [go_sem]
  have dw5 : W.drew.cell? ⟨w.heap.size + 1, 2, none⟩ = some (.slice q2 k2 d2) := xw5
  have r0 : W.cell? ⟨w.heap.size + 2, 0, none⟩ = some (.bool false) := by rw [← hW]; simp [go_sem]
  have rz0 : W.frozen? ⟨w.heap.size + 2, 0, none⟩ = false := by rw [← hW]; simp [go_sem]
  have r1 : W.cell? ⟨w.heap.size + 2, 1, none⟩ = some (.slice none 0 0) := by rw [← hW]; simp [go_sem]
  have rz1 : W.frozen? ⟨w.heap.size + 2, 1, none⟩ = false := by rw [← hW]; simp [go_sem]
  have r2 : W.cell? ⟨w.heap.size + 2, 2, none⟩ = some (.slice none 0 0) := by rw [← hW]; simp [go_sem]
  have rz2 : W.frozen? ⟨w.heap.size + 2, 2, none⟩ = false := by rw [← hW]; simp [go_sem]
  have hBW : w.heap.size + 2 < W.heap.size := cell_lt r0
  have hn1 : w.heap.size + 2 ≠ w.heap.size := by omega
  have hn2 : w.heap.size + 2 ≠ w.heap.size + 1 := by omega
  clear hW
  go_region_held3 (fun w' => w'.cell? ⟨w.heap.size, 0, none⟩ = some (.bool s) ∧ w'.cell? ⟨w.heap.size, 1, none⟩ = some (.slice p l c) ∧ w'.cell? ⟨w.heap.size, 2, none⟩ = some (.slice q k d) ∧ w'.cell? ⟨w.heap.size + 1, 0, none⟩ = some (.bool s2) ∧ w'.cell? ⟨w.heap.size + 1, 1, none⟩ = some (.slice p2 l2 c2) ∧ w'.cell? ⟨w.heap.size + 1, 2, none⟩ = some (.slice q2 k2 d2)) (first | (with_reducible exact ⟨xw0, xw1, xw2, xw3, xw4, xw5⟩) | (with_reducible exact ⟨dw0, dw1, dw2, dw3, dw4, dw5⟩) | (with_reducible exact ⟨aw0, aw1, aw2, aw3, aw4, aw5⟩) | (with_reducible exact ⟨bw0, bw1, bw2, bw3, bw4, bw5⟩) | (exact ⟨((World.cell?_setCell_far _ _ _ _ hn1).trans ((World.cell?_setCell_far _ _ _ _ hn1).trans ((World.cell?_setCell_far _ _ _ _ hn1).trans bw0))), ((World.cell?_setCell_far _ _ _ _ hn1).trans ((World.cell?_setCell_far _ _ _ _ hn1).trans ((World.cell?_setCell_far _ _ _ _ hn1).trans bw1))), ((World.cell?_setCell_far _ _ _ _ hn1).trans ((World.cell?_setCell_far _ _ _ _ hn1).trans ((World.cell?_setCell_far _ _ _ _ hn1).trans bw2))), ((World.cell?_setCell_far _ _ _ _ hn2).trans ((World.cell?_setCell_far _ _ _ _ hn2).trans ((World.cell?_setCell_far _ _ _ _ hn2).trans bw3))), ((World.cell?_setCell_far _ _ _ _ hn2).trans ((World.cell?_setCell_far _ _ _ _ hn2).trans ((World.cell?_setCell_far _ _ _ _ hn2).trans bw4))), ((World.cell?_setCell_far _ _ _ _ hn2).trans ((World.cell?_setCell_far _ _ _ _ hn2).trans ((World.cell?_setCell_far _ _ _ _ hn2).trans bw5)))⟩)) (first | (go_at_call 75; refine (hN _ ?q0).mono ?_; (case q0 => exact kw.drew); rintro e wl ⟨s5, p5, l5, c5, q5, k5, d5, rfl, hp5, gl⟩; have kl : Kp W wl := Kp.trans (Kp.drew (Kp.refl _)) gl; have aw0 := kkeep kl xw0; have aw1 := kkeep kl xw1; have aw2 := kkeep kl xw2; have aw3 := kkeep kl xw3; have aw4 := kkeep kl xw4; have aw5 := kkeep kl xw5) | (go_at_call 74; refine (hA _ s5 p5 l5 c5 q5 k5 d5 (kw.trans kl) hp5).mono ?_; rintro e wh ⟨s3, p3, l3, c3, q3, k3, d3, rfl, hp3, gh⟩; have kh : Kp W wh := Kp.trans kl gh; have bw0 := kkeep kh xw0; have bw1 := kkeep kh xw1; have bw2 := kkeep kh xw2; have bw3 := kkeep kh xw3; have bw4 := kkeep kh xw4; have bw5 := kkeep kh xw5; have R0 := kkeep kh r0; have Rz0 : wh.frozen? ⟨w.heap.size + 2, 0, none⟩ = false := (kfro kh (cell_lt r0)).trans rz0; have R1 := kkeep kh r1; have Rz1 : wh.frozen? ⟨w.heap.size + 2, 1, none⟩ = false := (kfro kh (cell_lt r1)).trans rz1; have R2 := kkeep kh r2; have Rz2 : wh.frozen? ⟨w.heap.size + 2, 2, none⟩ = false := (kfro kh (cell_lt r2)).trans rz2))
  go_wp2
  exact bodyPost_ret (v := .agg #[.bool s3, .slice p3 l3 c3, .slice q3 k3 d3]) (by simp [results, Tryz.results38, go_sem, R0, R1, R2]) rfl ⟨wl, wh, s3, p3, l3, c3, q3, k3, d3, rfl, hp3, rfl, Nat.lt_of_lt_of_le hBW (Below.size kl), Kp.trans kw kh⟩
theorem xsub_ (V V' : Int) (C C' N N' : Nat) (hN : N + N' ≤ 100000) (s : Bool) (p : Option Addr) (l c : Nat) (q : Option Addr) (k d : Nat) (s2 : Bool) (p2 : Option Addr) (l2 c2 : Nat) (q2 : Option Addr) (k2 d2 : Nat) (B1 B2 : Nat) (w : World) (h1 : XP B1 w s p l c q k d V C N) (h2 : XP B2 w s2 p2 l2 c2 q2 k2 d2 V' C' N') : Calls Tryz.prog 38 #[.agg #[.bool s, .slice p l c, .slice q k d], .agg #[.bool s2, .slice p2 l2 c2, .slice q2 k2 d2]] w fun e w' => ∃ (s3 : Bool) (p3 : Option Addr) (l3 c3 : Nat) (q3 : Option Addr) (k3 d3 : Nat), e = .returned (.agg #[.bool s3, .slice p3 l3 c3, .slice q3 k3 d3]) ∧ XP w.heap.size w' s3 p3 l3 c3 q3 k3 d3 (V * (C' : Int) - V' * (C : Int)) (C * C') (2 * (N + N') + 3) ∧ Kp w w' := by
  refine (rsubA_ (fun _ w' v => ∃ (s5 : Bool) (p5 : Option Addr) (l5 c5 : Nat) (q5 : Option Addr) (k5 d5 : Nat), v = .agg #[.bool s5, .slice p5 l5 c5, .slice q5 k5 d5] ∧ XP 0 w' s5 p5 l5 c5 q5 k5 d5 (-V') C' N') (fun W w' v => ∃ (s3 : Bool) (p3 : Option Addr) (l3 c3 : Nat) (q3 : Option Addr) (k3 d3 : Nat), v = .agg #[.bool s3, .slice p3 l3 c3, .slice q3 k3 d3] ∧ XP W.heap.size w' s3 p3 l3 c3 q3 k3 d3 (V * (C' : Int) - V' * (C : Int)) (C * C') (2 * (N + N') + 3)) s p l c q k d s2 p2 l2 c2 q2 k2 d2 w (fun W g => ?_) (fun W s5 p5 l5 c5 q5 k5 d5 g hp => ?_)).mono ?_
  · refine (xneg_ V' C' N' (by omega) s2 p2 l2 c2 q2 k2 d2 B2 W (h2.kp g)).mono ?_
    rintro e w' ⟨s5, p5, l5, c5, q5, k5, d5, rfl, hp, g2⟩
    exact ⟨s5, p5, l5, c5, q5, k5, d5, rfl, ⟨s5, p5, l5, c5, q5, k5, d5, rfl, hp.mono (Nat.zero_le _)⟩, g2⟩
  · obtain ⟨s6, p6, l6, c6, q6, k6, d6, e6, hp6⟩ := hp
    simp at e6
    obtain ⟨rfl, ⟨rfl, rfl, rfl⟩, rfl, rfl, rfl⟩ := e6
    refine (xadd_ V (-V') C C' N N' hN s p l c q k d s5 p5 l5 c5 q5 k5 d5 B1 0 W (h1.kp g) hp6).mono ?_
    rintro e w' ⟨s3, p3, l3, c3, q3, k3, d3, rfl, hq, g2⟩
    refine ⟨s3, p3, l3, c3, q3, k3, d3, rfl, ⟨s3, p3, l3, c3, q3, k3, d3, rfl, ?_⟩, g2⟩
    rw [show V * (C' : Int) - V' * (C : Int) = V * (C' : Int) + -V' * (C : Int) from by rw [Int.neg_mul]; omega]
    exact hq
  · rintro e w' ⟨W, wh, s3, p3, l3, c3, q3, k3, d3, rfl, ⟨s4, p4, l4, c4, q4, k4, d4, e4, hq⟩, rfl, hlt, g⟩
    simp at e4
    obtain ⟨rfl, ⟨rfl, rfl, rfl⟩, rfl, rfl, rfl⟩ := e4
    refine ⟨s3, p3, l3, c3, q3, k3, d3, rfl, XP.mono ((((hq).set (x := ⟨w.heap.size + 2, 0, none⟩) hlt (.bool s3)).set (x := ⟨w.heap.size + 2, 1, none⟩) hlt (.slice p3 l3 c3)).set (x := ⟨w.heap.size + 2, 2, none⟩) hlt (.slice q3 k3 d3)) (by omega), (((g).setCell (by simp <;> omega) _).setCell (by simp <;> omega) _).setCell (by simp <;> omega) _⟩
end Go.Proofs.YthdnajcgdngmcaaGreatDoor
namespace Go.Proofs.YthdnajcgdngmcaaGreatDoor
open Go.RowKit
set_option maxRecDepth 20000 in
set_option maxHeartbeats 1000000 in
theorem int1X_ (w : World) : Calls Tryz.prog 39 #[.int .i64 1] w fun e w' => ∃ (s : Bool) (p : Option Addr) (l c : Nat) (q : Option Addr) (k d : Nat), e = .returned (.agg #[.bool s, .slice p l c, .slice q k d]) ∧ XP w.heap.size w' s p l c q k d 1 1 1500 ∧ Kp w w' := by
  obtain ⟨B, hB⟩ : ∃ B, B = w.heap.size := ⟨_, rfl⟩
  obtain ⟨w0, hw0⟩ : ∃ w0, w0 = w.alloc (.cells #[.bool false, .slice none 0 0, .slice none 0 0] 49) := ⟨_, rfl⟩
  have kw : Kp w w0 := by rw [hw0]; exact (Kp.refl w).alloc _
  have r0 : w0.cell? ⟨B, 0, none⟩ = some (.bool false) := by rw [hw0, hB]; simp [go_sem]
  have r1 : w0.cell? ⟨B, 1, none⟩ = some (.slice none 0 0) := by rw [hw0, hB]; simp [go_sem]
  have r2 : w0.cell? ⟨B, 2, none⟩ = some (.slice none 0 0) := by rw [hw0, hB]; simp [go_sem]
  have f0 : w0.frozen? ⟨B, 0, none⟩ = false := by rw [hw0, hB]; simp [go_sem]
  have f1 : w0.frozen? ⟨B, 1, none⟩ = false := by rw [hw0, hB]; simp [go_sem]
  have f2 : w0.frozen? ⟨B, 2, none⟩ = false := by rw [hw0, hB]; simp [go_sem]
  have hlt := cell_lt r0
  have hs := rsmall_ 1 (by decide) w0
  have HW : Hid (w0 = w.alloc (.cells #[.bool false, .slice none 0 0, .slice none 0 0] 49) ∧ B = w.heap.size ∧ Kp w w0) := ⟨hw0, hB, kw⟩
  clear hw0 hB kw
  go_enter Tryz.func39, Tryz.ntmps39
  go_wp2_with fail
  rw [← HW.out.2.1]
  try rw [← HW.out.1]
  refine hs.mono ?_; rintro e w1 ⟨v, rfl, ho, k1⟩
  obtain ⟨pv, cv, rfl, hav, hcv⟩ := ho.arr
  obtain ⟨L, hL⟩ : ∃ L, L = (dig 1).length := ⟨_, rfl⟩
  rw [← hL]
  obtain ⟨g4, hg4⟩ : ∃ g4, g4 = w1.heap.size := ⟨_, rfl⟩
  obtain ⟨w4, hw4⟩ : ∃ w4, w4 = w1.alloc (.cells #[.int .u32 1] 80) := ⟨_, rfl⟩
  have k4 : Kp w1 w4 := by rw [hw4]; exact (Kp.refl _).alloc _
  have ar4 : Arr w4 (some ⟨g4, 0, none⟩) (dig 1) := by
    have h := (row1 w1 1).all rfl
    rw [← hw4, ← hg4] at h
    rw [dig_one6]
    exact h
  have h := frac_ false (.slice pv (dig 1).length cv) (.slice (some ⟨g4, 0, none⟩) (dig 1).length 1) (dig 1) (dig 1) 0 w4 ⟨pv, cv, rfl, hav.grown k4, hcv⟩ ⟨some ⟨g4, 0, none⟩, 1, rfl, ar4, by rw [dig_one6]; decide⟩ (Wd_dig _) (Wd_dig _) (by rw [dig_one6]; decide) (by rw [dig_one6]; decide) (by rw [val_dig]; decide) (by decide)
  simp only [val_dig] at h
  rw [show (dig 1).length = 1 from by rw [dig_one6]; rfl] at h
  have hL1 : L = 1 := by rw [hL, dig_one6]; rfl
  subst hL1
  have k04 := k1.trans k4
  have HG : Hid (g4 = w1.heap.size ∧ w4 = w1.alloc (.cells #[.int .u32 1] 80)) := ⟨hg4, hw4⟩
  replace r0 := kkeep k04 r0
  replace r1 := kkeep k04 r1
  replace r2 := kkeep k04 r2
  replace f0 := (kfro k04 hlt).trans f0
  replace f1 := (kfro k04 hlt).trans f1
  replace f2 := (kfro k04 hlt).trans f2
  have HK : Hid (Kp w0 w4 ∧ B < w0.heap.size) := ⟨k04, hlt⟩
  have hlt4 := cell_lt r0
  clear hs ho hav hcv hL hg4 hw4 k4 ar4 k1 k04 hlt
  go_wp2_with fail
  rw [← HG.out.1, ← HG.out.2]
  refine h.mono ?_; rintro e w5 ⟨vn, vd, a', b', ng, rfl, o1, o2, ff, k5⟩
  obtain ⟨pn, cn, rfl, an, ln⟩ := o1.arr
  obtain ⟨pd, cd, rfl, ad, ld⟩ := o2.arr
  replace r0 := kkeep k5 r0
  replace r1 := kkeep k5 r1
  replace r2 := kkeep k5 r2
  replace f0 := (kfro k5 hlt4).trans f0
  replace f1 := (kfro k5 hlt4).trans f1
  replace f2 := (kfro k5 hlt4).trans f2
  have hp : XP w4.heap.size w5 ng pn (dig a').length cn pd (dig b').length cd 1 1 1500 := by
    have e := frac_x 1 1 a' b' ng false (by decide) ff.1 (fun h => ff.2 h)
    have b1 := ff.1.2.2.2.1
    have b2 := ff.1.2.2.2.2
    have h2 : blen 1 = 1 := blen_uniq 1 0 (by decide) (by decide)
    refine ⟨a', b', o1, o2, ff.1.1, by decide, ?_, by simp at b1; omega, by simp at b2; omega⟩
    simpa [rvI] using e
  have hq := (((hp.set (x := ⟨B, 0, none⟩) hlt4 (.bool ng)).set (x := ⟨B, 1, none⟩) hlt4 (.slice pn (dig a').length cn)).set (x := ⟨B, 2, none⟩) hlt4 (.slice pd (dig b').length cd)).mono (base' := w.heap.size) (by have h1 := Below.size HW.out.2.2; have h2 := Below.size HK.out.1; omega)
  have hkw : Kp w (((w5.setCell ⟨B, 0, none⟩ (.bool ng)).setCell ⟨B, 1, none⟩ (.slice pn (dig a').length cn)).setCell ⟨B, 2, none⟩ (.slice pd (dig b').length cd)) := by
    have hB := HW.out.2.1
    exact ((((HW.out.2.2.trans HK.out.1).trans k5).setCell (by rw [hB]; exact Nat.le_refl _) _).setCell (by rw [hB]; exact Nat.le_refl _) _).setCell (by rw [hB]; exact Nat.le_refl _) _
  generalize (dig a').length = La at hq hkw ⊢
  generalize (dig b').length = Lb at hq hkw ⊢
  have HO : Hid (_ ∧ _) := ⟨hq, hkw⟩
  clear h hp hq hkw o1 o2 ff k5 an ln ad ld hlt4 HG
  go_wp2
  exact bodyPost_ret (v := .agg #[.bool ng, .slice pn La cn, .slice pd Lb cd]) (by simp [results, Tryz.results39, go_sem, r0, r1, r2]) rfl ⟨ng, pn, La, cn, pd, Lb, cd, rfl, HO.out.1, HO.out.2⟩
end Go.Proofs.YthdnajcgdngmcaaGreatDoor
namespace Go.Proofs.YthdnajcgdngmcaaGreatDoor
open Go.RowKit
set_option linter.unusedVariables false
/-- a step's number is a whole number of 2^K least places -/
theorem stZ_whole (K : Nat) (hK : K = 1074) (k : Nat) (z : Int) (hz : BdZ z) (hf : (stZ K k z).natAbs < 9218868437227405312) : ∃ Q : Nat, (vZ (stZ K k z)).natAbs = Q * 2 ^ K := by
  by_cases c : k = 0
  · have e : stZ K k z = (if z < 0 then -4607182418800017408 else if z = 0 then 0 else 4607182418800017408) := by unfold stZ; rw [if_pos c]
    have v1 := vV_one K hK
    have p1 : vZ 4607182418800017408 = ((2 ^ K : Nat) : Int) := by rw [vZ_pos _ (by decide)]; exact congrArg _ v1
    rw [e]
    by_cases a : z < 0
    · rw [if_pos a, vZ_neg, p1, Int.natAbs_neg, Int.natAbs_natCast]; exact ⟨1, by rw [Nat.one_mul]⟩
    · rw [if_neg a]
      by_cases b : z = 0
      · rw [if_pos b, vZ_0]; exact ⟨0, by rw [Nat.zero_mul]; rfl⟩
      · rw [if_neg b, p1, Int.natAbs_natCast]; exact ⟨1, by rw [Nat.one_mul]⟩
  · have ci : ¬ (z = 9218868437227405312 ∨ z = -9218868437227405312) := fun h => by rw [stZ_inf K k c z h] at hf; omega
    unfold BdZ at hz
    rw [(stZ_val K hK k c z (by omega)).1]
    unfold stV
    rw [if_neg c]
    by_cases a : vZ z < 0
    · rw [if_pos a, Int.natAbs_neg, Int.natAbs_natCast]; exact ⟨_, rfl⟩
    · rw [if_neg a, Int.natAbs_natCast]; exact ⟨_, rfl⟩
theorem dy_den {base : Nat} {w : World} {s1 : Bool} {p1 : Option Addr} {l1 c1 : Nat} {q1 : Option Addr} {k1 d1 : Nat} {V : Int} {K : Nat} (h : Dy base w s1 p1 l1 c1 q1 k1 d1 V K) (Q : Nat) (hQ : V.natAbs = Q * 2 ^ K) : Own w base (.slice q1 k1 d1) (dig 1) := by
  obtain ⟨a, j, h1, h2, ⟨g1, g2, g3⟩, h4⟩ := h
  have j0 : j = 0 := by
    rcases g2 with g2 | g2
    · rcases Nat.eq_zero_or_pos j with e | e
      · exact e
      · exfalso
        have e1 : 2 ^ K = 2 ^ j * 2 ^ (K - j) := by rw [← Nat.pow_add]; congr 1; omega
        rw [hQ, e1, ← Nat.mul_assoc] at g3
        have e2 := Nat.eq_of_mul_eq_mul_right (Nat.two_pow_pos (K - j)) g3
        rw [e2, show j = j - 1 + 1 from by omega, Nat.pow_succ, ← Nat.mul_assoc] at g2
        omega
    · exact g2
  rw [j0] at h2
  exact h2
theorem vZ_bits (K : Nat) (hK : K = 1074) (z : Int) (hz : z.natAbs < 9218868437227405312) : (vZ z).natAbs < 2 ^ (1024 + K) := by
  rw [vZ_abs, ← vV_inf K hK]
  exact Fq.vV_lt _ hz
theorem cm_le (x y : Int) (P : Nat) (hP : 0 < P) (h : x ≤ y) : cmI (x * (P : Int)) (y * (P : Int)) = -1 ∨ cmI (x * (P : Int)) (y * (P : Int)) = 0 := by
  rw [cmI_scale _ _ _ (by omega)]
  unfold cmI
  by_cases c : x < y
  · left; rw [if_pos c]
  · right; rw [if_neg c, if_neg (by omega)]
theorem fin_pI (z : Int) (hz : BdZ z) (w : World) : Calls Tryz.prog 34 #[.int .u64 (pI z)] w fun e w' => e = .returned (.bool (decide (z.natAbs < 9218868437227405312))) ∧ Kp w w' :=
  (fin_ (decide (z < 0)) z.natAbs (by have := abs_pw z hz; omega) w).mono fun e w' h => ⟨h.1, h.2 ▸ Kp.refl w⟩
set_option maxRecDepth 20000 in
theorem nan_pI (z : Int) (hz : BdZ z) (w : World) : Calls Tryz.prog 32 #[.int .u64 (pI z)] w fun e w' => e = .returned (.bool false) ∧ Kp w w' := by
  have h := Fq.isnan6_ (decide (z < 0)) z.natAbs (by have := abs_pw z hz; omega) w
  have e : decide (9218868437227405312 < z.natAbs) = false := decide_eq_false (by have := abs_pw z hz; omega)
  rw [e] at h
  exact h.mono fun e w' h => ⟨h.1, h.2 ▸ Kp.refl w⟩
theorem from_pI (K : Nat) (hK : K = 1074) (z : Int) (hz : z.natAbs < 9218868437227405312) (w : World) : Calls Tryz.prog 35 #[.int .u64 (pI z)] w fun e w' => ∃ (s1 : Bool) (p1 : Option Addr) (l1 c1 : Nat) (q1 : Option Addr) (k1 d1 : Nat), e = .returned (.agg #[.bool s1, .slice p1 l1 c1, .slice q1 k1 d1]) ∧ Dy 0 w' s1 p1 l1 c1 q1 k1 d1 (vZ z) K ∧ Kp w w' :=
  (dyfrom_ (decide (z < 0)) z.natAbs K hK hz w).mono fun e w' ⟨s1, p1, l1, c1, q1, k1, d1, h1, h2, h3⟩ => ⟨s1, p1, l1, c1, q1, k1, d1, h1, h2.mono (Nat.zero_le _), h3⟩
set_option maxRecDepth 20000 in
set_option maxHeartbeats 1000000 in
theorem pwhole_ (a b : Nat) (ha : a < 18446744073709551616) (hb : b < 18446744073709551616) (w : World) (hT : Tab w) (hQ : Fq.Tab w) : Calls Tryz.prog 7 #[.agg #[.int .u64 ((a : Nat) : Int), .int .u64 ((b : Nat) : Int)]] w fun e w' => e = .returned (.bool true) ∧ Kp w w' := by
  obtain ⟨K, hK⟩ : ∃ K : Nat, K = 1074 := ⟨_, rfl⟩
  obtain ⟨L1, H1, r1⟩ := Rd.ex a b ha hb
  have d1 := r1.vd
  have rs := Rd.of d1
  have t1 := pI_I L1 d1.lo
  by_cases c1 : L1 = 9218868437227405312
  · have eH : H1 = -9218868437227405312 := by unfold VdZ at d1; omega
    rw [decide_eq_true c1] at t1
    refine wholeE_ _ _ (pw L1) (pw H1) (fun k => pw (gLo K k L1 H1)) (fun k => pw (gHi K k L1 H1)) (fun i k => pI (if i = 0 then gLo K k L1 H1 else gHi K k L1 H1)) (fun i => pI (if i = 0 then L1 else H1)) (rread9_ a b L1 H1 r1) (in9_ _ _) (fun k hk w => step9_ K hK k hk _ _ L1 H1 rs w) (fun k hk w => out9_ _ _ w) lives7_ t1 (by show (pI H1 == 18442240474082181120) = true; rw [eH, pI_MI]; rfl) (fun k hk => ?_) w ⟨hT, hQ⟩
    have e1 : gLo K k L1 H1 = 9218868437227405312 := by unfold gLo; rw [if_pos c1]
    have e2 : gHi K k L1 H1 = -9218868437227405312 := by unfold gHi; rw [if_pos c1]
    refine ⟨?_, ?_⟩
    · show (pI (gLo K k L1 H1) == 9218868437227405312) = true
      rw [e1]; decide
    · show (pI (gHi K k L1 H1) == 18442240474082181120) = true
      rw [e2]; decide
  · rw [decide_eq_false c1] at t1
    have e1 : ∀ k, gLo K k L1 H1 = stZ K k L1 := fun k => by unfold gLo; rw [if_neg c1]
    have e2 : ∀ k, gHi K k L1 H1 = stZ K k H1 := fun k => by unfold gHi; rw [if_neg c1]
    obtain ⟨zf, hzf⟩ : ∃ zf : Nat → Int, ∀ i, zf i = if i = 0 then L1 else H1 := ⟨_, fun i => rfl⟩
    have z0 : zf 0 = L1 := by rw [hzf]; rfl
    have z1 : zf 1 = H1 := by rw [hzf]; rfl
    have zb : ∀ i, BdZ (zf i) := fun i => by rw [hzf]; split; exact d1.lo; exact d1.hi
    have yb : ∀ i k, BdZ (stZ K k (zf i)) := fun i k => stZ_bd K hK k _ (zb i)
    have hst : ∀ k : Nat, k < 6 → ∀ w : World, Calls Tryz.prog 27 #[.int .i64 (k : Int), .agg #[.float .f64 (pw L1), .float .f64 (pw H1)]] w fun e w' => e = .returned (.agg #[.float .f64 (pw (stZ K k (zf 0))), .float .f64 (pw (stZ K k (zf 1)))]) ∧ Kp w w' := fun k hk w => by
      have h := step9_ K hK k hk _ _ L1 H1 rs w
      rw [e1, e2] at h
      rw [z0, z1]
      exact h
    have hrd := rread9_ a b L1 H1 r1
    rw [← z0, ← z1] at hrd
    have hin := in9_ (pw L1) (pw H1)
    have hin2 : ∀ w : World, Calls Tryz.prog 20 #[.agg #[.int .u64 (pI (zf 0)), .int .u64 (pI (zf 1))]] w fun e w' => e = .returned (.agg #[.float .f64 (pw L1), .float .f64 (pw H1)]) ∧ Kp w w' := by rw [z0, z1]; exact hin
    have t1' : (pI (zf 0) == 9218868437227405312) = false := by rw [z0]; exact t1
    have hP := Nat.two_pow_pos K
    refine wholeN_ _ _ (pw L1) (pw H1) (fun k => pw (stZ K k (zf 0))) (fun k => pw (stZ K k (zf 1))) (fun i k => pI (stZ K k (zf i))) (fun i => pI (zf i)) (fun i => cmI (vZ (stZ K 1 (zf i)) * ((2 ^ K : Nat) : Int)) (vZ (zf i) * ((2 ^ K : Nat) : Int))) hrd hin2 hst (fun k hk w => out9_ _ _ w) lives7_ (fun i => decide (zf i = 9218868437227405312 ∨ zf i = -9218868437227405312)) (fun i => decide ((zf i).natAbs < 9218868437227405312)) (fun i k => decide ((stZ K k (zf i)).natAbs < 9218868437227405312)) (fun i k W s p l c q kk d => Dy 0 W s p l c q kk d (vZ (stZ K k (zf i))) K) (fun i W s p l c q kk d => Dy 0 W s p l c q kk d (vZ (zf i)) K) (fun W s p l c q kk d => XP 0 W s p l c q kk d 1 1 1500) (fun i W s p l c q kk d => XP 0 W s p l c q kk d (vZ (zf i) * ((1 : Nat) : Int) - 1 * ((2 ^ K : Nat) : Int)) (2 ^ K * 1) (2 * (1024 + K + 1500) + 3)) (fun i k W W' s p l c q kk d g h => h.kp g) (fun i W W' s p l c q kk d g h => h.kp g) (fun i k hi hk => ?_) (fun i k hi hk w => nan_pI _ (yb i k) w) (fun i k hi hk h0 w => ?_) (fun i hi w => (isinf9_ _ (zb i) w).mono fun e w' h => ⟨h.1, h.2 ▸ Kp.refl w⟩) (fun i k hi hk w => fin_pI _ (yb i k) w) (fun i hi w => fin_pI _ (zb i) w) (fun i k hi hk hf w => from_pI K hK _ (of_decide_eq_true hf) w) (fun i hi hf w => from_pI K hK _ (of_decide_eq_true hf) w) (fun i k hi hk hf s p l c q kk d w h => ?_) (fun i k hi hk1 h1 h2 s1 p1 l1 c1 q1 k1 d1 s2 p2 l2 c2 q2 k2 d2 w g1 g2 => ?_) (fun i k hi hk1 h1 h2 => ?_) (fun w => ?_) (fun i hi h2 s2 p2 l2 c2 q2 k2 d2 s3 p3 l3 c3 q3 k3 d3 w g2 g3 => ?_) (fun i k hi hk1 h1 h2 s4 p4 l4 c4 q4 k4 d4 s1 p1 l1 c1 q1 k1 d1 w g4 g1 => ?_) t1' w ⟨hT, hQ⟩
    · have hne := pw_ne _ (yb i k)
      show (((pw (stZ K k (zf i)) : Nat) : Int) == 9223372036854775808) = false
      simp; omega
    · have h := isinf9_ _ (yb i k) w
      have e : decide (stZ K k (zf i) = 9218868437227405312 ∨ stZ K k (zf i) = -9218868437227405312) = decide (zf i = 9218868437227405312 ∨ zf i = -9218868437227405312) := by
        congr 1; apply propext
        have hb := zb i
        unfold BdZ at hb
        constructor
        · intro g
          by_cases c : zf i = 9218868437227405312 ∨ zf i = -9218868437227405312
          · exact c
          · have := (stZ_val K hK k h0 (zf i) (by omega)).2; omega
        · intro g; rw [stZ_inf K k h0 _ g]; exact g
      rw [e] at h
      exact h.mono fun e w' h => ⟨h.1, h.2 ▸ Kp.refl w⟩
    · obtain ⟨Q, hQ2⟩ := stZ_whole K hK k (zf i) (zb i) (of_decide_eq_true hf)
      have o := dy_den h Q hQ2
      have g := lenR (.slice q kk d) 1 w o.ls (by rw [show blen 1 = 1 from by decide]; decide)
      rw [show blen 1 = 1 from by decide] at g
      exact g.mono fun e w' h => ⟨h.1, by first | exact h.2 | exact (h.2 ▸ Kp.refl w)⟩
    · subst hk1
      have x1 := g1.xp (1024 + K) (vZ_bits K hK _ (of_decide_eq_true h1)) (by omega)
      have x2 := g2.xp (1024 + K) (vZ_bits K hK _ (of_decide_eq_true h2)) (by omega)
      exact xcmp_ 0 0 _ _ (2 ^ K) (2 ^ K) (1024 + K) (1024 + K) (by omega) (by omega) s1 p1 l1 c1 q1 k1 d1 s2 p2 l2 c2 q2 k2 d2 w x1 x2
    · have hz := of_decide_eq_true h2
      have v := (stZ_val K hK 1 (by decide) (zf i) (by omega)).1
      refine cm_le _ _ _ hP ?_
      rw [v]
      exact (stV_floor _ hP _).1
    · refine (int1X_ w).mono ?_
      rintro e w' ⟨s, p, l, c, q, kk, d, rfl, h1, h2⟩
      exact ⟨s, p, l, c, q, kk, d, rfl, h1.mono (Nat.zero_le _), h2⟩
    · have x2 := g2.xp (1024 + K) (vZ_bits K hK _ (of_decide_eq_true h2)) (by omega)
      refine (xsub_ _ _ (2 ^ K) 1 (1024 + K) 1500 (by omega) s2 p2 l2 c2 q2 k2 d2 s3 p3 l3 c3 q3 k3 d3 0 0 w x2 g3).mono ?_
      rintro e w' ⟨s, p, l, c, q, kk, d, rfl, h3, h4⟩
      exact ⟨s, p, l, c, q, kk, d, rfl, h3.mono (Nat.zero_le _), h4⟩
    · subst hk1
      have x1 := g1.xp (1024 + K) (vZ_bits K hK _ (of_decide_eq_true h1)) (by omega)
      have h := xcmp_ 0 0 _ _ (2 ^ K * 1) (2 ^ K) _ (1024 + K) (by omega) (by omega) s4 p4 l4 c4 q4 k4 d4 s1 p1 l1 c1 q1 k1 d1 w g4 x1
      have hz := of_decide_eq_true h2
      have v := (stZ_val K hK 1 (by decide) (zf i) (by omega)).1
      have f := (stV_floor _ hP (vZ (zf i))).2
      rw [v] at h
      have e : cmI ((vZ (zf i) * ((1 : Nat) : Int) - 1 * ((2 ^ K : Nat) : Int)) * ((2 ^ K : Nat) : Int)) (stV 1 (2 ^ K) (vZ (zf i)) * ((2 ^ K * 1 : Nat) : Int)) = -1 := by
        rw [Nat.mul_one, cmI_scale _ _ _ (by omega)]
        unfold cmI
        rw [if_pos]
        generalize stV 1 (2 ^ K) (vZ (zf i)) = X at *
        generalize vZ (zf i) = Y at *
        generalize 2 ^ K = P at *
        simp only [Int.one_mul]
        omega
      rw [e] at h
      exact h
end Go.Proofs.YthdnajcgdngmcaaGreatDoor
