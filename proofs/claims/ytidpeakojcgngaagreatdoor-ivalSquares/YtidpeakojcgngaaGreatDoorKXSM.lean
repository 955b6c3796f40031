import Derived.Test.YtidpeakojcgngaaGreatDoorProg
import Derived.Test.YtidpeakojcgngaaGreatDoorKXA0
import Derived.Test.YtidpeakojcgngaaGreatDoorKXM
import Derived.Test.YtidpeakojcgngaaGreatDoorKXY
import Derived.Test.YtidpeakojcgngaaGreatDoorKXQF
import Derived.Test.YtidpeakojcgngaaGreatDoorKQA
import Derived.Test.YtidpeakojcgngaaGreatDoorKQP
import Derived.Test.YtidpeakojcgngaaGreatDoorKXQU
import Derived.Test.YtidpeakojcgngaaGreatDoorKQB
import Derived.Test.YtidpeakojcgngaaGreatDoorKQBT
import Derived.Test.YtidpeakojcgngaaGreatDoorKQJd
import Derived.Test.YtidpeakojcgngaaGreatDoorKXEA
import Derived.Test.YtidpeakojcgngaaGreatDoorKXED
import Derived.Test.YtidpeakojcgngaaGreatDoorKMR7Q
import Derived.Test.YtidpeakojcgngaaGreatDoorKXMR
import Derived.Test.YtidpeakojcgngaaGreatDoorKXM3
import Derived.Test.YtidpeakojcgngaaGreatDoorKXO
import Derived.Test.YtidpeakojcgngaaGreatDoorKXO3
import Derived.Test.YtidpeakojcgngaaGreatDoorKXT
import Derived.Test.YtidpeakojcgngaaGreatDoorKXLX
import Derived.Test.YtidpeakojcgngaaGreatDoorKRX
import Derived.Test.YtidpeakojcgngaaGreatDoorKXRL
import Derived.Test.YtidpeakojcgngaaGreatDoorKXCO
import Derived.Test.YtidpeakojcgngaaGreatDoorKLN
import Derived.Test.YtidpeakojcgngaaGreatDoorKXRN
import Derived.Test.YtidpeakojcgngaaGreatDoorKXW4
import Derived.Test.YtidpeakojcgngaaGreatDoorKXBY
import Derived.Test.YtidpeakojcgngaaGreatDoorKXTZ
import Derived.Test.YtidpeakojcgngaaGreatDoorKXG1
import Derived.Test.YtidpeakojcgngaaGreatDoorKXH2Q
import Derived.Test.YtidpeakojcgngaaGreatDoorKXG4
import Derived.Test.YtidpeakojcgngaaGreatDoorKXS1
import Derived.Test.YtidpeakojcgngaaGreatDoorKXET
import Derived.Test.YtidpeakojcgngaaGreatDoorKXEG
import Derived.Test.YtidpeakojcgngaaGreatDoorKXEC
import Derived.Test.YtidpeakojcgngaaGreatDoorKXPN
import Derived.Test.YtidpeakojcgngaaGreatDoorKXSQ
import Derived.Test.YtidpeakojcgngaaGreatDoorKXSZ
import Derived.Test.YtidpeakojcgngaaGreatDoorKXU1
import Derived.Test.YtidpeakojcgngaaGreatDoorKXU5
import Derived.Test.YtidpeakojcgngaaGreatDoorKXM4
import Derived.WalkKit
import Derived.ProofKit
import Derived.RowKit3
import Derived.WalkSpells
import Derived.StillTactics
import Derived.Deep.QuietTactic
import Derived.BigQuiet
import Derived.Below
import Derived.Deep.OwnRows
import Derived.OwnWalk
import Derived.Laws.BitsAllLaws
import Derived.Laws.Slices
import Derived.Laws.Bits64b
import Derived.Laws.FloatArith
import Derived.Deep.RegionHeld3
namespace Go.Proofs.YtidpeakojcgngaaGreatDoor
open Go.RowKit

set_option linter.unusedVariables false
set_option maxRecDepth 20000 in
set_option maxHeartbeats 1000000 in
theorem rsqr7c_ (X Y LO HI : Int) (P1 P2 : World → Value → Prop) (w : World) (hO : ∀ W : World, Kp w W → Calls Tryz.prog 17 #[.agg #[.int .u64 X, .int .u64 Y]] W fun e w' => ∃ v, e = .returned v ∧ P1 w' v ∧ Kp W w') (hMi : ∀ (W : World) (v : Value), Kp w W → P1 W v → Calls Tryz.prog 16 #[v] W fun e w' => ∃ v', e = .returned v' ∧ P2 w' v' ∧ Kp W w') (hLe : ∀ (W : World) (v : Value), Kp w W → P2 W v → Calls Tryz.prog 15 #[v] W fun e w' => e = .returned (.agg #[.int .u64 LO, .int .u64 HI]) ∧ Kp W w') : Calls Tryz.prog 7 #[.agg #[.int .u64 X, .int .u64 Y]] w fun e w' => e = .returned (.agg #[.int .u64 LO, .int .u64 HI]) ∧ Kp w w' := by
  go_enter Tryz.func7, Tryz.ntmps7
  go_wp2_with (first | (go_at_call 17; refine (hO _ ?q0).mono ?_; (case q0 => exact ((Kp.refl w).alloc _).alloc _); rintro e w1 ⟨v1, rfl, hv1, g1⟩; have k1 : Kp w w1 := Kp.trans (((Kp.refl w).alloc _).alloc _) g1; have r0 := kkeep g1 (b := w.heap.size + 1) (o := 0) (v := .int .u64 0) (by simp [go_sem]); have rz0 : w1.frozen? ⟨w.heap.size + 1, 0, none⟩ = false := (kfro g1 (by simp <;> omega)).trans (by simp [go_sem]); have r1 := kkeep g1 (b := w.heap.size + 1) (o := 1) (v := .int .u64 0) (by simp [go_sem]); have rz1 : w1.frozen? ⟨w.heap.size + 1, 1, none⟩ = false := (kfro g1 (by simp <;> omega)).trans (by simp [go_sem])) | (go_at_call 16; refine (hMi _ v1 k1 hv1).mono ?_; rintro e w2 ⟨v2, rfl, hv2, g2⟩; have k2 := Kp.trans k1 g2; have x0 := kkeep g2 r0; have xz0 : w2.frozen? ⟨w.heap.size + 1, 0, none⟩ = false := (kfro g2 (cell_lt r0)).trans rz0; have x1 := kkeep g2 r1; have xz1 : w2.frozen? ⟨w.heap.size + 1, 1, none⟩ = false := (kfro g2 (cell_lt r1)).trans rz1) | (go_at_call 15; refine (hLe _ v2 k2 hv2).mono ?_; rintro e w3 ⟨rfl, g3⟩; have k3 := Kp.trans k2 g3; have R0 := kkeep g3 x0; have Rz0 : w3.frozen? ⟨w.heap.size + 1, 0, none⟩ = false := (kfro g3 (cell_lt x0)).trans xz0; have R1 := kkeep g3 x1; have Rz1 : w3.frozen? ⟨w.heap.size + 1, 1, none⟩ = false := (kfro g3 (cell_lt x1)).trans xz1))
  exact bodyPost_ret (v := .agg #[.int .u64 LO, .int .u64 HI]) (by simp [results, Tryz.results7, go_sem, R0, R1]) rfl ⟨rfl, ((k3).setCell (by simp) _).setCell (by simp) _⟩
/-- a set that is not empty, its ends the squares of sizes -/
def SW1 (m r : Nat) (W : World) (v : Value) : Prop := ∃ (s : Bool) (p : Option Addr) (l c : Nat) (q : Option Addr) (k d : Nat) (s2 : Bool) (p2 : Option Addr) (l2 c2 : Nat) (q2 : Option Addr) (k2 d2 : Nat), v = .agg #[.bool false, .int .i64 (infS false m), .bool s, .slice p l c, .slice q k d, .int .i64 (infS false r), .bool s2, .slice p2 l2 c2, .slice q2 k2 d2] ∧ WP 0 W s p l c q k d (sq7 m) ∧ WP 0 W s2 p2 l2 c2 q2 k2 d2 (sq7 r)
theorem sqq_sv {m r : Nat} {e : Ending} {w' : World} (h : SqQ (infS false m) (infS false r) (sq7 m) (sq7 r) e w') : ∃ v, e = .returned v ∧ SW1 m r w' v := by
  obtain ⟨s3, p3, l3, c3, q3, k3, d3, s5, p5, l5, c5, q5, k5, d5, rfl, h1, h2⟩ := h
  exact ⟨_, rfl, s3, p3, l3, c3, q3, k3, d3, s5, p5, l5, c5, q5, k5, d5, rfl, h1, h2⟩
theorem sq7_zero : sq7 0 = 0 := by unfold sq7; rw [Fq.vV_zero]; rfl
theorem sqq_sv0 {r : Nat} {e : Ending} {w' : World} (h : SqQ 0 (infS false r) 0 (sq7 r) e w') : ∃ v, e = .returned v ∧ SW1 0 r w' v := by
  have e1 : infS false 0 = 0 := by unfold infS; decide
  have h : SqQ (infS false 0) (infS false r) (sq7 0) (sq7 r) e w' := by rw [e1, sq7_zero]; exact h
  exact sqq_sv h
theorem cmI_sq (a b : Nat) : cmI (((Fq.vV Ieee.double a * Fq.vV Ieee.double a : Nat)) : Int) (((Fq.vV Ieee.double b * Fq.vV Ieee.double b : Nat)) : Int) = cmI (a : Int) b := by
  rcases Nat.lt_trichotomy a b with h | h | h
  · have h1 := Fq.vV_lt Ieee.double h
    have h2 : Fq.vV Ieee.double a * Fq.vV Ieee.double a < Fq.vV Ieee.double b * Fq.vV Ieee.double b := Nat.mul_lt_mul'' h1 h1
    rw [cmI_lt _ _ (by omega), cmI_lt _ _ (by omega)]
  · rw [h]; unfold cmI; simp
  · have h1 := Fq.vV_lt Ieee.double h
    have h2 : Fq.vV Ieee.double b * Fq.vV Ieee.double b < Fq.vV Ieee.double a * Fq.vV Ieee.double a := Nat.mul_lt_mul'' h1 h1
    rw [cmI_gt _ _ (by omega), cmI_gt _ _ (by omega)]
theorem cmpW_ (m r : Nat) (hm : m ≤ 9218868437227405312) (hr : r ≤ 9218868437227405312) (s : Bool) (p : Option Addr) (l c : Nat) (q : Option Addr) (k d : Nat) (s2 : Bool) (p2 : Option Addr) (l2 c2 : Nat) (q2 : Option Addr) (k2 d2 : Nat) (W : World) (h1 : WP 0 W s p l c q k d (sq7 m)) (h2 : WP 0 W s2 p2 l2 c2 q2 k2 d2 (sq7 r)) : Calls Tryz.prog 51 #[.agg #[.int .i64 (infS false m), .bool s, .slice p l c, .slice q k d], .agg #[.int .i64 (infS false r), .bool s2, .slice p2 l2 c2, .slice q2 k2 d2]] W fun e w' => e = .returned (.int .i64 (cmI (m : Int) r)) ∧ Kp W w' := by
  have eI : infS false 9218868437227405312 = 1 := by decide +kernel
  by_cases z1 : m = 9218868437227405312
  · by_cases z2 : r = 9218868437227405312
    · rw [z1, z2, eI, show cmI ((9218868437227405312 : Nat) : Int) ((9218868437227405312 : Nat) : Int) = 0 from by decide +kernel]
      exact endE_ 1 s p l c q k d s2 p2 l2 c2 q2 k2 d2 rfl W
    · have e2 : infS false r = 0 := by unfold infS; simp [z2]
      rw [z1, eI, e2, cmI_gt _ _ (by omega)]
      exact endG_ 1 0 s p l c q k d s2 p2 l2 c2 q2 k2 d2 rfl (by decide) W
  · have e1 : infS false m = 0 := by unfold infS; simp [z1]
    by_cases z2 : r = 9218868437227405312
    · rw [z2, eI, e1, cmI_lt _ _ (by omega)]
      exact endL_ 0 1 s p l c q k d s2 p2 l2 c2 q2 k2 d2 rfl (by decide) W
    · have e2 : infS false r = 0 := by unfold infS; simp [z2]
      rw [e1, e2]
      have hs := fun (V : World) (y : Kp W V) => wcmp_ 0 0 (sq7 m) (sq7 r) s p l c q k d s2 p2 l2 c2 q2 k2 d2 V (h1.kp y) (h2.kp y)
      rw [show sq7 m = Fq.vV Ieee.double m * Fq.vV Ieee.double m from by unfold sq7; rw [if_neg z1], show sq7 r = Fq.vV Ieee.double r * Fq.vV Ieee.double r from by unfold sq7; rw [if_neg z2], cmI_sq] at hs
      exact endZ_ _ s p l c q k d s2 p2 l2 c2 q2 k2 d2 W hs
set_option maxHeartbeats 2000000 in
theorem squareV_ (n g : Bool) (m r : Nat) (hm : m ≤ 9218868437227405312) (hr : r ≤ 9218868437227405312) (hle : Fq.plz n m ≤ Fq.plz g r) (W : World) (v : Value) (h : SV1 n m g r W v) : Calls Tryz.prog 16 #[v] W fun e w' => (∃ v', e = .returned v' ∧ SW1 (if 0 < Fq.plz n m then m else if Fq.plz g r < 0 then r else 0) (max m r) w' v') ∧ Kp W w' := by
  obtain ⟨s, p, l, c, q, k, d, s2, p2, l2, c2, q2, k2, d2, rfl, u1, u2⟩ := h
  have hM1 := fun (V : World) (y : Kp W V) => prod7_ n m hm s p l c q k d 0 W u1 V y
  have hM2 := fun (V : World) (y : Kp W V) => prod7_ g r hr s2 p2 l2 c2 q2 k2 d2 0 W u2 V y
  have hS1 := fun (V : World) (y : Kp W V) => signE_ n m s p l c q k d 0 V (u1.kp y)
  have hS2 := fun (V : World) (y : Kp W V) => signE_ g r s2 p2 l2 c2 q2 k2 d2 0 V (u2.kp y)
  have P1 : Fq.plz n m = if n then -(m : Int) else m := by unfold Fq.plz; cases n <;> rfl
  have P2 : Fq.plz g r = if g then -(r : Int) else r := by unfold Fq.plz; cases g <;> rfl
  have cnn : ∀ x y : Int, y ≤ x → ¬ (cmI x y < 0) := fun x y h => by unfold cmI; rw [if_neg (by omega)]; split <;> omega
  have cnp : ∀ x y : Int, x ≤ y → ¬ (0 < cmI x y) := fun x y h => by unfold cmI; split <;> first | omega | (rw [if_neg (by omega)]; omega)
  have cgt : ∀ x y : Int, y < x → 0 < cmI x y := fun x y h => by rw [cmI_gt x y h]; decide
  have cng : ∀ x y : Int, y ≤ x → 0 ≤ cmI x y := fun x y h => by unfold cmI; rw [if_neg (by omega)]; split <;> omega
  have cnl : ∀ x y : Int, x ≤ y → cmI x y ≤ 0 := fun x y h => by unfold cmI; split <;> first | omega | (rw [if_neg (by omega)]; omega)
  by_cases y1 : 0 < Fq.plz n m
  · rw [if_pos y1]
    have b : m ≤ r := by
      rw [P1, P2] at hle; rw [P1] at y1
      cases n <;> cases g <;> simp at hle y1 <;> omega
    by_cases y3 : m < r
    · rw [show max m r = r from by omega]
      exact ((sqA35_ (infS n m) (infS g r) (infS false m) (infS false r) (cmI (Fq.plz n m) 0) (cmI (Fq.plz g r) 0) (sq7 m) (sq7 r) s p l c q k d s2 p2 l2 c2 q2 k2 d2 (by have := cgt _ _ y1; omega) W hM1 hM2 (fun V s3 p3 l3 c3 q3 k3 d3 s5 p5 l5 c5 q5 k5 d5 y1 y2 => lesserA_ (infS false m) (infS false r) (cmI (r : Int) m) s3 p3 l3 c3 q3 k3 d3 s5 p5 l5 c5 q5 k5 d5 (by exact cnn _ _ (by omega)) V (fun U yU => cmpW_ r m hr hm s5 p5 l5 c5 q5 k5 d5 s3 p3 l3 c3 q3 k3 d3 U (y2.kp yU) (y1.kp yU))) (fun V s3 p3 l3 c3 q3 k3 d3 s5 p5 l5 c5 q5 k5 d5 y1 y2 => greaterB_ (infS false m) (infS false r) (cmI (r : Int) m) s3 p3 l3 c3 q3 k3 d3 s5 p5 l5 c5 q5 k5 d5 (by rw [cmI_gt _ _ (by omega)]; decide) V (fun U yU => cmpW_ r m hr hm s5 p5 l5 c5 q5 k5 d5 s3 p3 l3 c3 q3 k3 d3 U (y2.kp yU) (y1.kp yU))) hS1 hS2).mono fun e w' h => ⟨sqq_sv h.1, h.2⟩)
    · have y4 : r = m := by omega
      rw [show max m r = m from by omega]
      exact ((sqA33_ (infS n m) (infS g r) (infS false m) (infS false r) (cmI (Fq.plz n m) 0) (cmI (Fq.plz g r) 0) (sq7 m) (sq7 r) s p l c q k d s2 p2 l2 c2 q2 k2 d2 (by have := cgt _ _ y1; omega) W hM1 hM2 (fun V s3 p3 l3 c3 q3 k3 d3 s5 p5 l5 c5 q5 k5 d5 y1 y2 => lesserA_ (infS false m) (infS false r) (cmI (r : Int) m) s3 p3 l3 c3 q3 k3 d3 s5 p5 l5 c5 q5 k5 d5 (by exact cnn _ _ (by omega)) V (fun U yU => cmpW_ r m hr hm s5 p5 l5 c5 q5 k5 d5 s3 p3 l3 c3 q3 k3 d3 U (y2.kp yU) (y1.kp yU))) (fun V s3 p3 l3 c3 q3 k3 d3 s5 p5 l5 c5 q5 k5 d5 y1 y2 => greaterA_ (infS false m) (infS false r) (cmI (r : Int) m) s3 p3 l3 c3 q3 k3 d3 s5 p5 l5 c5 q5 k5 d5 (by exact cnp _ _ (by omega)) V (fun U yU => cmpW_ r m hr hm s5 p5 l5 c5 q5 k5 d5 s3 p3 l3 c3 q3 k3 d3 U (y2.kp yU) (y1.kp yU))) hS1 hS2).mono fun e w' h => ⟨sqq_sv h.1, h.2⟩)
  · rw [if_neg y1]
    by_cases y2 : Fq.plz g r < 0
    · rw [if_pos y2]
      have b : r ≤ m := by
        rw [P1, P2] at hle; rw [P2] at y2
        cases n <;> cases g <;> simp at hle y2 <;> omega
      rw [show max m r = m from by omega]
      by_cases y3 : r < m
      · exact ((sqB53_ (infS n m) (infS g r) (infS false m) (infS false r) (cmI (Fq.plz n m) 0) (cmI (Fq.plz g r) 0) (sq7 m) (sq7 r) s p l c q k d s2 p2 l2 c2 q2 k2 d2 (cnl _ _ (by omega)) (by rw [cmI_lt _ _ y2]; decide) W hM1 hM2 (fun V s3 p3 l3 c3 q3 k3 d3 s5 p5 l5 c5 q5 k5 d5 y1 y2 => lesserB_ (infS false m) (infS false r) (cmI (r : Int) m) s3 p3 l3 c3 q3 k3 d3 s5 p5 l5 c5 q5 k5 d5 (by rw [cmI_lt _ _ (by omega)]; decide) V (fun U yU => cmpW_ r m hr hm s5 p5 l5 c5 q5 k5 d5 s3 p3 l3 c3 q3 k3 d3 U (y2.kp yU) (y1.kp yU))) (fun V s3 p3 l3 c3 q3 k3 d3 s5 p5 l5 c5 q5 k5 d5 y1 y2 => greaterA_ (infS false m) (infS false r) (cmI (r : Int) m) s3 p3 l3 c3 q3 k3 d3 s5 p5 l5 c5 q5 k5 d5 (by exact cnp _ _ (by omega)) V (fun U yU => cmpW_ r m hr hm s5 p5 l5 c5 q5 k5 d5 s3 p3 l3 c3 q3 k3 d3 U (y2.kp yU) (y1.kp yU))) hS1 hS2).mono fun e w' h => ⟨sqq_sv h.1, h.2⟩)
      · have y4 : r = m := by omega
        exact ((sqB33_ (infS n m) (infS g r) (infS false m) (infS false r) (cmI (Fq.plz n m) 0) (cmI (Fq.plz g r) 0) (sq7 m) (sq7 r) s p l c q k d s2 p2 l2 c2 q2 k2 d2 (cnl _ _ (by omega)) (by rw [cmI_lt _ _ y2]; decide) W hM1 hM2 (fun V s3 p3 l3 c3 q3 k3 d3 s5 p5 l5 c5 q5 k5 d5 y1 y2 => lesserA_ (infS false m) (infS false r) (cmI (r : Int) m) s3 p3 l3 c3 q3 k3 d3 s5 p5 l5 c5 q5 k5 d5 (by exact cnn _ _ (by omega)) V (fun U yU => cmpW_ r m hr hm s5 p5 l5 c5 q5 k5 d5 s3 p3 l3 c3 q3 k3 d3 U (y2.kp yU) (y1.kp yU))) (fun V s3 p3 l3 c3 q3 k3 d3 s5 p5 l5 c5 q5 k5 d5 y1 y2 => greaterA_ (infS false m) (infS false r) (cmI (r : Int) m) s3 p3 l3 c3 q3 k3 d3 s5 p5 l5 c5 q5 k5 d5 (by exact cnp _ _ (by omega)) V (fun U yU => cmpW_ r m hr hm s5 p5 l5 c5 q5 k5 d5 s3 p3 l3 c3 q3 k3 d3 U (y2.kp yU) (y1.kp yU))) hS1 hS2).mono fun e w' h => ⟨(by have q9 := sqq_sv h.1; rw [y4]; exact q9), h.2⟩)
    · rw [if_neg y2]
      by_cases y3 : r < m
      · rw [show max m r = m from by omega]
        exact ((sqZ53_ (infS n m) (infS g r) (infS false m) (infS false r) (cmI (Fq.plz n m) 0) (cmI (Fq.plz g r) 0) (sq7 m) (sq7 r) s p l c q k d s2 p2 l2 c2 q2 k2 d2 (cnl _ _ (by omega)) (cng _ _ (by omega)) W hM1 hM2 (fun V s3 p3 l3 c3 q3 k3 d3 s5 p5 l5 c5 q5 k5 d5 y1 y2 => lesserB_ (infS false m) (infS false r) (cmI (r : Int) m) s3 p3 l3 c3 q3 k3 d3 s5 p5 l5 c5 q5 k5 d5 (by rw [cmI_lt _ _ (by omega)]; decide) V (fun U yU => cmpW_ r m hr hm s5 p5 l5 c5 q5 k5 d5 s3 p3 l3 c3 q3 k3 d3 U (y2.kp yU) (y1.kp yU))) (fun V s3 p3 l3 c3 q3 k3 d3 s5 p5 l5 c5 q5 k5 d5 y1 y2 => greaterA_ (infS false m) (infS false r) (cmI (r : Int) m) s3 p3 l3 c3 q3 k3 d3 s5 p5 l5 c5 q5 k5 d5 (by exact cnp _ _ (by omega)) V (fun U yU => cmpW_ r m hr hm s5 p5 l5 c5 q5 k5 d5 s3 p3 l3 c3 q3 k3 d3 U (y2.kp yU) (y1.kp yU))) hS1 hS2).mono fun e w' h => ⟨sqq_sv0 h.1, h.2⟩)
      · by_cases y5 : m < r
        · rw [show max m r = r from by omega]
          exact ((sqZ35_ (infS n m) (infS g r) (infS false m) (infS false r) (cmI (Fq.plz n m) 0) (cmI (Fq.plz g r) 0) (sq7 m) (sq7 r) s p l c q k d s2 p2 l2 c2 q2 k2 d2 (cnl _ _ (by omega)) (cng _ _ (by omega)) W hM1 hM2 (fun V s3 p3 l3 c3 q3 k3 d3 s5 p5 l5 c5 q5 k5 d5 y1 y2 => lesserA_ (infS false m) (infS false r) (cmI (r : Int) m) s3 p3 l3 c3 q3 k3 d3 s5 p5 l5 c5 q5 k5 d5 (by exact cnn _ _ (by omega)) V (fun U yU => cmpW_ r m hr hm s5 p5 l5 c5 q5 k5 d5 s3 p3 l3 c3 q3 k3 d3 U (y2.kp yU) (y1.kp yU))) (fun V s3 p3 l3 c3 q3 k3 d3 s5 p5 l5 c5 q5 k5 d5 y1 y2 => greaterB_ (infS false m) (infS false r) (cmI (r : Int) m) s3 p3 l3 c3 q3 k3 d3 s5 p5 l5 c5 q5 k5 d5 (by rw [cmI_gt _ _ (by omega)]; decide) V (fun U yU => cmpW_ r m hr hm s5 p5 l5 c5 q5 k5 d5 s3 p3 l3 c3 q3 k3 d3 U (y2.kp yU) (y1.kp yU))) hS1 hS2).mono fun e w' h => ⟨sqq_sv0 h.1, h.2⟩)
        · rw [show max m r = m from by omega]
          exact ((sqZ33_ (infS n m) (infS g r) (infS false m) (infS false r) (cmI (Fq.plz n m) 0) (cmI (Fq.plz g r) 0) (sq7 m) (sq7 r) s p l c q k d s2 p2 l2 c2 q2 k2 d2 (cnl _ _ (by omega)) (cng _ _ (by omega)) W hM1 hM2 (fun V s3 p3 l3 c3 q3 k3 d3 s5 p5 l5 c5 q5 k5 d5 y1 y2 => lesserA_ (infS false m) (infS false r) (cmI (r : Int) m) s3 p3 l3 c3 q3 k3 d3 s5 p5 l5 c5 q5 k5 d5 (by exact cnn _ _ (by omega)) V (fun U yU => cmpW_ r m hr hm s5 p5 l5 c5 q5 k5 d5 s3 p3 l3 c3 q3 k3 d3 U (y2.kp yU) (y1.kp yU))) (fun V s3 p3 l3 c3 q3 k3 d3 s5 p5 l5 c5 q5 k5 d5 y1 y2 => greaterA_ (infS false m) (infS false r) (cmI (r : Int) m) s3 p3 l3 c3 q3 k3 d3 s5 p5 l5 c5 q5 k5 d5 (by exact cnp _ _ (by omega)) V (fun U yU => cmpW_ r m hr hm s5 p5 l5 c5 q5 k5 d5 s3 p3 l3 c3 q3 k3 d3 U (y2.kp yU) (y1.kp yU))) hS1 hS2).mono fun e w' h => ⟨sqq_sv0 h.1, h.2⟩)
set_option maxRecDepth 20000 in
set_option maxHeartbeats 1000000 in
theorem squareE_ (i j : Int) (s : Bool) (p : Option Addr) (l c : Nat) (q : Option Addr) (k d : Nat) (s2 : Bool) (p2 : Option Addr) (l2 c2 : Nat) (q2 : Option Addr) (k2 d2 : Nat) (w : World) : Calls Tryz.prog 16 #[.agg #[.bool true, .int .i64 i, .bool s, .slice p l c, .slice q k d, .int .i64 j, .bool s2, .slice p2 l2 c2, .slice q2 k2 d2]] w fun e w' => e = .returned (.agg #[.bool true, .int .i64 i, .bool s, .slice p l c, .slice q k d, .int .i64 j, .bool s2, .slice p2 l2 c2, .slice q2 k2 d2]) ∧ Kp w w' := by
  go_enter Tryz.func16, Tryz.ntmps16
  go_wp2
  exact bodyPost_ret (v := .agg #[.bool true, .int .i64 i, .bool s, .slice p l c, .slice q k d, .int .i64 j, .bool s2, .slice p2 l2 c2, .slice q2 k2 d2]) (by simp [results, Tryz.results16, go_sem]) rfl ⟨rfl, (by repeat (with_reducible (first | assumption | exact Kp.refl _ | apply Kp.drew | apply Kp.alloc | apply Kp.drewN | (refine Kp.setCell ?_ (by first | omega | (simp <;> omega)) _) | (refine Kp.trans ?_ (by assumption)))))⟩
theorem squareX_ (W : World) (v : Value) (h : SV0 true v) : Calls Tryz.prog 16 #[v] W fun e w' => ∃ v', e = .returned v' ∧ SV0 true v' ∧ Kp W w' := by
  obtain ⟨i, j, s, p, l, c, q, k, d, s2, p2, l2, c2, q2, k2, d2, rfl⟩ := h
  refine (squareE_ i j s p l c q k d s2 p2 l2 c2 q2 k2 d2 W).mono ?_
  rintro e w' ⟨rfl, y⟩
  exact ⟨_, rfl, ⟨i, j, s, p, l, c, q, k, d, s2, p2, l2, c2, q2, k2, d2, rfl⟩, y⟩

/-- a size's square, rounded -/
def sqW7 (d : Int) (m : Nat) : Nat := if m = 9218868437227405312 then 9218868437227405312 else mulW d false (Fq.vV Ieee.double m * Fq.vV Ieee.double m)
theorem psq7_ (d : Int) (m : Nat) (hm : m ≤ 9218868437227405312) (hd1 : -9223372036854775808 ≤ d) (hd2 : d < 9223372036854775808) (w : World) (hT : Tab w) (hQ : Fq.Tab w) : Calls Tryz.prog 13 #[.int .i64 d, .float .f64 m, .float .f64 m] w fun e w' => e = .returned (.float .f64 (sqW7 d m)) ∧ Kp w w' := by
  have e0 : m = Fq.wD false m := rfl
  unfold sqW7
  by_cases c1 : m = 9218868437227405312
  · rw [if_pos c1]
    have hp := Fq.plain_d (false ^^ false) 9218868437227405312 (by decide) w
    rw [show ((false ^^ false) && !((9218868437227405312 : Nat) == 0)) = (false ^^ false) from by simp] at hp
    have hb : ¬ badP m m := by unfold badP; omega
    exact pmulP_ d false false m m (by omega) (by omega) (fun h => by omega) w w _ _ (run_float_arith w .mul 26 .f64 _ _ _ (mul_inf false false m m hb (fun h => by omega))) (Kp.refl _) hp
  · rw [if_neg c1]
    by_cases z : m = 0
    · have h0 : mulW d false (Fq.vV Ieee.double m * Fq.vV Ieee.double m) = 0 := by
        unfold mulW
        exact if_pos (by rw [z, Fq.vV_zero])
      rw [h0]
      have hp := Fq.plain_d (false ^^ false) 0 (by decide) w
      rw [show Fq.wD ((false ^^ false) && !((0 : Nat) == 0)) 0 = 0 from by simp; rfl] at hp
      exact pmulP_ d false false m m (by omega) (by omega) (fun h => by omega) w w (Fq.wD (false ^^ false) 0) 0 (run_float_arith w .mul 26 .f64 _ _ _ (mul_zero false false m m (by omega) (by omega) (Or.inl z))) (Kp.refl _) hp
    · by_cases ct : (2580562586483294208 ≤ m ∧ m ≤ 6633802251116740608) ∧ (2580562586483294208 ≤ m ∧ m ≤ 6633802251116740608)
      · exact pmulQ_ d false false m m ct.1 ct.2 w
      · exact pmulE_ d false false m m (by omega) (by omega) z z ct w hT hQ hd1 hd2
set_option linter.unusedVariables false
set_option maxRecDepth 20000 in
set_option maxHeartbeats 1000000 in
theorem holdsA_ (X Y : Nat) (E1 E2 : Bool) (t1 : ((FloatKind.f64.format.order X 0 == some Ordering.lt) || (FloatKind.f64.format.order X 0 == some Ordering.eq)) = E1) (t2 : ((FloatKind.f64.format.order Y 0 == some Ordering.gt) || (FloatKind.f64.format.order Y 0 == some Ordering.eq)) = E2) (w : World) : Calls Tryz.prog 21 #[.agg #[.float .f64 X, .float .f64 Y]] w fun e w' => e = .returned (.bool (E1 && E2)) ∧ Kp w w' := by
  cases E1 <;> cases E2
  all_goals (
    go_enter Tryz.func21, Tryz.ntmps21
    go_wp2
    exact bodyPost_ret (v := .bool _) (by simp [results, Tryz.results21, go_sem]) rfl ⟨rfl, (by repeat (with_reducible (first | assumption | exact Kp.refl _ | apply Kp.drew | apply Kp.alloc | apply Kp.drewN | (refine Kp.setCell ?_ (by first | omega | (simp <;> omega)) _) | (refine Kp.trans ?_ (by assumption)))))⟩)
set_option maxRecDepth 20000 in
set_option maxHeartbeats 1000000 in
theorem magnT_ (X Y M R LO HI : Nat) (ha1 : ∀ w : World, Calls Tryz.prog 20 #[.float .f64 X] w fun e w' => e = .returned (.float .f64 M) ∧ w' = w) (ha2 : ∀ w : World, Calls Tryz.prog 20 #[.float .f64 Y] w fun e w' => e = .returned (.float .f64 R) ∧ w' = w) (hm1 : ∀ (ts : Array TypeId) (t : TypeId) (w : World), (Builtin.max_ ts t #[.float .f64 M, .float .f64 R]).run Tryz.prog w = .ok (.float .f64 HI) w) (hm2 : ∀ (ts : Array TypeId) (t : TypeId) (w : World), (Builtin.min_ ts t #[.float .f64 M, .float .f64 R]).run Tryz.prog w = .ok (.float .f64 LO) w) (hh : ∀ w : World, Calls Tryz.prog 21 #[.agg #[.float .f64 X, .float .f64 Y]] w fun e w' => e = .returned (.bool true) ∧ Kp w w') (w : World) : Calls Tryz.prog 12 #[.agg #[.float .f64 X, .float .f64 Y]] w fun e w' => e = .returned (.tuple #[.float .f64 0, .float .f64 HI]) ∧ Kp w w' := by
  go_enter Tryz.func12, Tryz.ntmps12
  go_wp2
  refine Fq.wp_region_grow (by kernel_rfl) (by kernel_rfl) (fun ι _ G hG hall => ?_)
  have cc0 : ∀ n, (G n).cell? ⟨w.heap.size, 0, none⟩ = some (.float .f64 X) := fun n => Fq.gkeep (hG n) (by simp [go_sem])
  have cc1 : ∀ n, (G n).cell? ⟨w.heap.size, 1, none⟩ = some (.float .f64 Y) := fun n => Fq.gkeep (hG n) (by simp [go_sem])
  repeat (go_big_quiet_step (first | (go_at_call_of 20 (Value.float .f64 X); exact (ha1 _).mono (fun e w' h => ⟨h.1, hall _ (by rw [h.2]; exact hG _)⟩)) | (go_at_call_of 20 (Value.float .f64 Y); exact (ha2 _).mono (fun e w' h => ⟨h.1, hall _ (by rw [h.2]; exact hG _)⟩))))
  refine wpQuiet_nil ?_
  rintro _ ⟨nq, rfl⟩
  have gq : Kp _ (G nq) := hG nq
  have y0 := cc0 nq
  have y1 := cc1 nq
  clear cc0 cc1 hall hG
  have kG : Kp w (G nq) := Kp.trans ((Kp.refl w).alloc _) gq
  clear gq
  generalize G nq = W at y0 y1 kG ⊢
  go_wp2_with (first | (go_at_call 21; refine (hh _).mono ?_; rintro e w2 ⟨rfl, g2⟩; have k2 : Kp w w2 := Kp.trans kG g2))
  exact bodyPost_ret (v := .tuple #[.float .f64 0, .float .f64 HI]) (by simp [results, Tryz.results12, go_sem]) rfl ⟨rfl, k2⟩
set_option maxRecDepth 20000 in
set_option maxHeartbeats 1000000 in
theorem magnF_ (X Y M R LO HI : Nat) (ha1 : ∀ w : World, Calls Tryz.prog 20 #[.float .f64 X] w fun e w' => e = .returned (.float .f64 M) ∧ w' = w) (ha2 : ∀ w : World, Calls Tryz.prog 20 #[.float .f64 Y] w fun e w' => e = .returned (.float .f64 R) ∧ w' = w) (hm1 : ∀ (ts : Array TypeId) (t : TypeId) (w : World), (Builtin.max_ ts t #[.float .f64 M, .float .f64 R]).run Tryz.prog w = .ok (.float .f64 HI) w) (hm2 : ∀ (ts : Array TypeId) (t : TypeId) (w : World), (Builtin.min_ ts t #[.float .f64 M, .float .f64 R]).run Tryz.prog w = .ok (.float .f64 LO) w) (hh : ∀ w : World, Calls Tryz.prog 21 #[.agg #[.float .f64 X, .float .f64 Y]] w fun e w' => e = .returned (.bool false) ∧ Kp w w') (w : World) : Calls Tryz.prog 12 #[.agg #[.float .f64 X, .float .f64 Y]] w fun e w' => e = .returned (.tuple #[.float .f64 LO, .float .f64 HI]) ∧ Kp w w' := by
  go_enter Tryz.func12, Tryz.ntmps12
  go_wp2
  refine Fq.wp_region_grow (by kernel_rfl) (by kernel_rfl) (fun ι _ G hG hall => ?_)
  have cc0 : ∀ n, (G n).cell? ⟨w.heap.size, 0, none⟩ = some (.float .f64 X) := fun n => Fq.gkeep (hG n) (by simp [go_sem])
  have cc1 : ∀ n, (G n).cell? ⟨w.heap.size, 1, none⟩ = some (.float .f64 Y) := fun n => Fq.gkeep (hG n) (by simp [go_sem])
  repeat (go_big_quiet_step (first | (go_at_call_of 20 (Value.float .f64 X); exact (ha1 _).mono (fun e w' h => ⟨h.1, hall _ (by rw [h.2]; exact hG _)⟩)) | (go_at_call_of 20 (Value.float .f64 Y); exact (ha2 _).mono (fun e w' h => ⟨h.1, hall _ (by rw [h.2]; exact hG _)⟩))))
  refine wpQuiet_nil ?_
  rintro _ ⟨nq, rfl⟩
  have gq : Kp _ (G nq) := hG nq
  have y0 := cc0 nq
  have y1 := cc1 nq
  clear cc0 cc1 hall hG
  have kG : Kp w (G nq) := Kp.trans ((Kp.refl w).alloc _) gq
  clear gq
  generalize G nq = W at y0 y1 kG ⊢
  go_wp2_with (first | (go_at_call 21; refine (hh _).mono ?_; rintro e w2 ⟨rfl, g2⟩; have k2 : Kp w w2 := Kp.trans kG g2))
  exact bodyPost_ret (v := .tuple #[.float .f64 LO, .float .f64 HI]) (by simp [results, Tryz.results12, go_sem]) rfl ⟨rfl, k2⟩
set_option maxRecDepth 20000 in
set_option maxHeartbeats 1000000 in
theorem sqrV_ (a b LO HI : Nat) (hr : ∀ w : World, Calls Tryz.prog 9 #[.agg #[.float .f64 a, .float .f64 b]] w fun e w' => e = .returned (.agg #[.float .f64 LO, .float .f64 HI]) ∧ Kp w w') (hv : ∀ w : World, Calls Tryz.prog 10 #[.agg #[.float .f64 LO, .float .f64 HI]] w fun e w' => e = .returned (.bool true) ∧ Kp w w') (hE : ∀ w : World, Calls Tryz.prog 11 #[] w fun e w' => e = .returned (.agg #[.float .f64 9218868437227405312, .float .f64 18442240474082181120]) ∧ Kp w w') (w : World) : Calls Tryz.prog 5 #[.agg #[.float .f64 a, .float .f64 b]] w fun e w' => e = .returned (.agg #[.float .f64 9218868437227405312, .float .f64 18442240474082181120]) ∧ Kp w w' := by
  go_enter Tryz.func5, Tryz.ntmps5
  go_wp2_with (first | (go_at_call 9; refine (hr _).mono ?_; rintro e w1 ⟨rfl, g1⟩; have q0 := Fq.H2.keep (Fq.H2.past (Fq.H2.new w (.float .f64 a) (.float .f64 b) 28) #[.float .f64 0, .float .f64 0] 28) g1; have q1 : Fq.H2 w1 (w.heap.size + 1) (.float .f64 0) (.float .f64 0) := Fq.H2.keep (Fq.H2.two0 w (.float .f64 a) (.float .f64 b) (.float .f64 0) (.float .f64 0) 28 28) g1; have kw : Kp w w1 := Kp.trans (((Kp.refl w).alloc _).alloc _) g1; obtain ⟨x0, x1, x2, x3⟩ := id q0; obtain ⟨y0, y1, y2, y3⟩ := id q1) | (go_at_call 10; refine (hv _).mono ?_; rintro e w2 ⟨rfl, g2⟩; have qx := Fq.H2.keep (Fq.H2.put q0 (.float .f64 LO) (.float .f64 HI)) g2; have qy := Fq.H2.keep (Fq.H2.far q1 (show w.heap.size ≠ w.heap.size + 1 by omega) (.float .f64 LO) (.float .f64 HI)) g2; have kv : Kp w w2 := Kp.trans ((kw.setCell (Nat.le_refl _) _).setCell (Nat.le_refl _) _) g2; obtain ⟨u0, u1, u2, u3⟩ := id qx; obtain ⟨v0, v1, v2, v3⟩ := id qy) | (go_at_call 11; refine (hE _).mono ?_; rintro e w3 ⟨rfl, g3⟩; have ke := Kp.trans kv g3; obtain ⟨e0, e1, e2, e3⟩ := Fq.H2.keep qy g3))
  exact bodyPost_ret (v := .agg #[.float .f64 9218868437227405312, .float .f64 18442240474082181120]) (by simp [results, Tryz.results5, go_sem, e0, e1]) rfl ⟨rfl, (ke.setCell (by simp) _).setCell (by simp) _⟩
set_option maxRecDepth 20000 in
set_option maxHeartbeats 1000000 in
theorem sqrS_ (a b LO HI : Nat) (hr : ∀ w : World, Calls Tryz.prog 9 #[.agg #[.float .f64 a, .float .f64 b]] w fun e w' => e = .returned (.agg #[.float .f64 LO, .float .f64 HI]) ∧ Kp w w') (hv : ∀ w : World, Calls Tryz.prog 10 #[.agg #[.float .f64 LO, .float .f64 HI]] w fun e w' => e = .returned (.bool false) ∧ Kp w w') (ML MH NL NH : Nat) (hmg : ∀ w : World, Calls Tryz.prog 12 #[.agg #[.float .f64 LO, .float .f64 HI]] w fun e w' => e = .returned (.tuple #[.float .f64 ML, .float .f64 MH]) ∧ Kp w w') (w : World) (hA1 : ∀ W : World, Kp w W → Calls Tryz.prog 13 #[.int .i64 (-1), .float .f64 ML, .float .f64 ML] W fun e w' => e = .returned (.float .f64 NL) ∧ Kp W w') (hA2 : ∀ W : World, Kp w W → Calls Tryz.prog 13 #[.int .i64 1, .float .f64 MH, .float .f64 MH] W fun e w' => e = .returned (.float .f64 NH) ∧ Kp W w') : Calls Tryz.prog 5 #[.agg #[.float .f64 a, .float .f64 b]] w fun e w' => e = .returned (.agg #[.float .f64 NL, .float .f64 NH]) ∧ Kp w w' := by
  go_enter Tryz.func5, Tryz.ntmps5
  go_wp2_with (first | (go_at_call 9; refine (hr _).mono ?_; rintro e w1 ⟨rfl, g1⟩; have q0 := Fq.H2.keep (Fq.H2.past (Fq.H2.new w (.float .f64 a) (.float .f64 b) 28) #[.float .f64 0, .float .f64 0] 28) g1; have q1 : Fq.H2 w1 (w.heap.size + 1) (.float .f64 0) (.float .f64 0) := Fq.H2.keep (Fq.H2.two0 w (.float .f64 a) (.float .f64 b) (.float .f64 0) (.float .f64 0) 28 28) g1; have kw : Kp w w1 := Kp.trans (((Kp.refl w).alloc _).alloc _) g1; obtain ⟨x0, x1, x2, x3⟩ := id q0; obtain ⟨y0, y1, y2, y3⟩ := id q1) | (go_at_call 10; refine (hv _).mono ?_; rintro e w2 ⟨rfl, g2⟩; have qx := Fq.H2.keep (Fq.H2.put q0 (.float .f64 LO) (.float .f64 HI)) g2; have qy := Fq.H2.keep (Fq.H2.far q1 (show w.heap.size ≠ w.heap.size + 1 by omega) (.float .f64 LO) (.float .f64 HI)) g2; have kv : Kp w w2 := Kp.trans ((kw.setCell (Nat.le_refl _) _).setCell (Nat.le_refl _) _) g2; obtain ⟨u0, u1, u2, u3⟩ := id qx; obtain ⟨v0, v1, v2, v3⟩ := id qy) | (go_at_call 12; refine (hmg _).mono ?_; rintro e w3 ⟨rfl, g3⟩; have k3 := Kp.trans kv g3) | (go_at_call_of 13 (Value.float .f64 ML); refine (hA1 _ k3).mono ?_; rintro e w4 ⟨rfl, g4⟩; have k4 := Kp.trans k3 g4) | (go_at_call_of 13 (Value.float .f64 MH); refine (hA2 _ k4).mono ?_; rintro e w5 ⟨rfl, g5⟩; have k5 := Kp.trans k4 g5; obtain ⟨e0, e1, e2, e3⟩ := Fq.H2.keep (Fq.H2.keep (Fq.H2.keep qy g3) g4) g5))
  exact bodyPost_ret (v := .agg #[.float .f64 NL, .float .f64 NH]) (by simp [results, Tryz.results5, go_sem, e0, e1]) rfl ⟨rfl, (k5.setCell (by simp) _).setCell (by simp) _⟩
theorem min7_ (n n' : Bool) (m m' : Nat) (hm : m ≤ 9218868437227405312) (hm' : m' ≤ 9218868437227405312) (h1 : Fq.wD n m ≠ 9223372036854775808) (h2 : Fq.wD n' m' ≠ 9223372036854775808) (ts : Array TypeId) (t : TypeId) (w : World) : (Builtin.min_ ts t #[.float .f64 (Fq.wD n m), .float .f64 (Fq.wD n' m')]).run Tryz.prog w = .ok (.float .f64 (if Fq.plz n' m' < Fq.plz n m then Fq.wD n' m' else Fq.wD n m)) w := by
  have ho := Fq.ordD n n' m m' hm hm'
  rcases Int.lt_trichotomy (Fq.plz n m) (Fq.plz n' m') with g | g | g
  · rw [Fq.cmp_lt g] at ho
    rw [if_neg (by omega)]
    generalize Fq.wD n m = X at ho ⊢
    generalize Fq.wD n' m' = Y at ho ⊢
    simp [Builtin.min_, Builtin.min2, ho]
  · rw [Fq.cmp_eq g] at ho
    have e : Fq.wD n m = Fq.wD n' m' := by
      have z1 : n = true → m ≠ 0 := fun h z => h1 (by rw [h, z]; rfl)
      have z2 : n' = true → m' ≠ 0 := fun h z => h2 (by rw [h, z]; rfl)
      unfold Fq.wD
      unfold Fq.plz at g
      cases n <;> cases n' <;> simp at z1 z2 g ⊢ <;> omega
    rw [if_neg (by omega)]
    rw [← e] at ho ⊢
    generalize Fq.wD n m = X at ho ⊢
    simp [Builtin.min_, Builtin.min2, ho]
  · rw [Fq.cmp_gt g] at ho
    rw [if_pos (by omega)]
    generalize Fq.wD n m = X at ho ⊢
    generalize Fq.wD n' m' = Y at ho ⊢
    simp [Builtin.min_, Builtin.min2, ho]
theorem max7_ (n n' : Bool) (m m' : Nat) (hm : m ≤ 9218868437227405312) (hm' : m' ≤ 9218868437227405312) (h1 : Fq.wD n m ≠ 9223372036854775808) (h2 : Fq.wD n' m' ≠ 9223372036854775808) (ts : Array TypeId) (t : TypeId) (w : World) : (Builtin.max_ ts t #[.float .f64 (Fq.wD n m), .float .f64 (Fq.wD n' m')]).run Tryz.prog w = .ok (.float .f64 (if Fq.plz n' m' > Fq.plz n m then Fq.wD n' m' else Fq.wD n m)) w := by
  have ho := Fq.ordD n n' m m' hm hm'
  rcases Int.lt_trichotomy (Fq.plz n m) (Fq.plz n' m') with g | g | g
  · rw [Fq.cmp_lt g] at ho
    rw [if_pos (by omega)]
    generalize Fq.wD n m = X at ho ⊢
    generalize Fq.wD n' m' = Y at ho ⊢
    simp [Builtin.max_, Builtin.max2, ho]
  · rw [Fq.cmp_eq g] at ho
    have e : Fq.wD n m = Fq.wD n' m' := by
      have z1 : n = true → m ≠ 0 := fun h z => h1 (by rw [h, z]; rfl)
      have z2 : n' = true → m' ≠ 0 := fun h z => h2 (by rw [h, z]; rfl)
      unfold Fq.wD
      unfold Fq.plz at g
      cases n <;> cases n' <;> simp at z1 z2 g ⊢ <;> omega
    rw [if_neg (by omega)]
    rw [← e] at ho ⊢
    generalize Fq.wD n m = X at ho ⊢
    simp [Builtin.max_, Builtin.max2, ho]
  · rw [Fq.cmp_gt g] at ho
    rw [if_neg (by omega)]
    generalize Fq.wD n m = X at ho ⊢
    generalize Fq.wD n' m' = Y at ho ⊢
    simp [Builtin.max_, Builtin.max2, ho]

set_option linter.unusedVariables false
theorem leastW_ (m r : Nat) (hm : m < 9218868437227405312) (hr : r ≤ 9218868437227405312) (W : World) (v : Value) (h : SW1 m r W v) : Calls Tryz.prog 15 #[v] W fun e w' => e = .returned (.agg #[.int .u64 ((sqW7 (-1) m : Nat) : Int), .int .u64 ((sqW7 1 r : Nat) : Int)]) ∧ Kp W w' := by
  obtain ⟨s, p, l, c, q, k, d, s2, p2, l2, c2, q2, k2, d2, rfl, x1, x2⟩ := h
  have h := leastP_ (infS false m) (infS false r) _ _ s p l c q k d s2 p2 l2 c2 q2 k2 d2 0 0 W (fun _ => x1.qp) (fun _ => x2.qp)
  have e1 : (if infS false m = 0 then mulW (-1) false (sq7 m) else 18442240474082181120) = sqW7 (-1) m := by
    rw [if_pos (by unfold infS; rw [if_neg (by omega)])]
    unfold sq7 sqW7
    rw [if_neg (by omega), if_neg (by omega)]
  have e2 : (if infS false r = 0 then mulW 1 false (sq7 r) else 9218868437227405312) = sqW7 1 r := by
    unfold sqW7
    by_cases c0 : r = 9218868437227405312
    · rw [if_neg (by unfold infS; rw [if_pos c0]; decide), if_pos c0]
    · rw [if_pos (by unfold infS; rw [if_neg c0]), if_neg c0]
      unfold sq7; rw [if_neg c0]
  rw [e1, e2] at h
  exact h
theorem ole7 (n : Bool) (m : Nat) (hm : m ≤ 9218868437227405312) : ((FloatKind.f64.format.order (Fq.wD n m) 0 == some Ordering.lt) || (FloatKind.f64.format.order (Fq.wD n m) 0 == some Ordering.eq)) = decide (Fq.plz n m ≤ 0) := by
  have h := Fq.ordD n false m 0 hm (by decide)
  rw [show Fq.wD false 0 = 0 from rfl, show Fq.plz false 0 = 0 from rfl] at h
  rcases Int.lt_trichotomy (Fq.plz n m) 0 with y | y | y
  · rw [Fq.cmp_lt y] at h; rw [h, decide_eq_true (by omega)]; rfl
  · rw [Fq.cmp_eq y] at h; rw [h, decide_eq_true (by omega)]; rfl
  · rw [Fq.cmp_gt y] at h; rw [h, decide_eq_false (by omega)]; rfl
theorem oge7 (n : Bool) (m : Nat) (hm : m ≤ 9218868437227405312) : ((FloatKind.f64.format.order (Fq.wD n m) 0 == some Ordering.gt) || (FloatKind.f64.format.order (Fq.wD n m) 0 == some Ordering.eq)) = decide (0 ≤ Fq.plz n m) := by
  have h := Fq.ordD n false m 0 hm (by decide)
  rw [show Fq.wD false 0 = 0 from rfl, show Fq.plz false 0 = 0 from rfl] at h
  rcases Int.lt_trichotomy (Fq.plz n m) 0 with y | y | y
  · rw [Fq.cmp_lt y] at h; rw [h, decide_eq_false (by omega)]; rfl
  · rw [Fq.cmp_eq y] at h; rw [h, decide_eq_true (by omega)]; rfl
  · rw [Fq.cmp_gt y] at h; rw [h, decide_eq_true (by omega)]; rfl
theorem sqr_both6 (a b : Nat) (ha : a < 18446744073709551616) (hb : b < 18446744073709551616) : ∃ LO HI : Nat, (∀ w : World, Tab w → Fq.Tab w → Calls Tryz.prog 5 #[.agg #[.float .f64 a, .float .f64 b]] w fun e w' => e = .returned (.agg #[.float .f64 LO, .float .f64 HI]) ∧ Kp w w') ∧ (∀ w : World, Calls Tryz.prog 7 #[.agg #[.int .u64 ((a : Nat) : Int), .int .u64 ((b : Nat) : Int)]] w fun e w' => e = .returned (.agg #[.int .u64 ((LO : Nat) : Int), .int .u64 ((HI : Nat) : Int)]) ∧ Kp w w') := by
  have hp := Fq.read_ a b ha hb
  have hv0 := Fq.void_ (Fq.rlo a b) (Fq.rhi a b) (Fq.rlo_lt a b ha) (Fq.rhi_lt a b hb)
  rw [Fq.void_read] at hv0
  have hE : ∀ w : World, Calls Tryz.prog 11 #[] w fun e w' => e = .returned (.agg #[.float .f64 9218868437227405312, .float .f64 18442240474082181120]) ∧ Kp w w' := fun w => by
    refine (Fq.empty6_ w).mono ?_
    exact fun e w' h => ⟨h.1, by first | exact h.2 | (rw [h.2]; exact (Kp.refl _).alloc _)⟩
  by_cases s1 : Fq.snd a b = true
  · obtain ⟨n, m, L1, e1⟩ := rlo_w a b ha hb
    obtain ⟨g, r, L2, e2⟩ := rhi_w a b ha hb
    have i1 := rlo_inf a b s1 n m e1
    have i2 := rhi_inf a b s1 g r e2
    have P1 : Fq.plz n m = if n then -(m : Int) else m := by unfold Fq.plz; cases n <;> rfl
    have P2 : Fq.plz g r = if g then -(r : Int) else r := by unfold Fq.plz; cases g <;> rfl
    have P3 : ∀ x : Nat, Fq.plz false x = (x : Int) := fun x => by unfold Fq.plz; rfl
    have hle : Fq.plz n m ≤ Fq.plz g r := by
      have q := snd_read8 a b ha hb s1
      rw [e1, e2, Fq.snd_w n g m r (by omega) (by omega)] at q
      exact (of_decide_eq_true q).2.2.1
    rw [s1] at hv0
    rw [e1, e2] at hp hv0
    have hlo : (if 0 < Fq.plz n m then m else if Fq.plz g r < 0 then r else 0) < 9218868437227405312 := by
      by_cases y1 : 0 < Fq.plz n m
      · rw [if_pos y1]
        rcases Nat.lt_or_ge m 9218868437227405312 with h | h
        · exact h
        · rw [P1, i1 (by omega)] at y1; simp at y1; omega
      · rw [if_neg y1]
        by_cases y2 : Fq.plz g r < 0
        · rw [if_pos y2]
          rcases Nat.lt_or_ge r 9218868437227405312 with h | h
          · exact h
          · rw [P2, i2 (by omega)] at y2; simp at y2; omega
        · rw [if_neg y2]; decide
    have hmx := max7_ false false m r L1 L2 (by show m ≠ 9223372036854775808; omega) (by show r ≠ 9223372036854775808; omega)
    have hmn := min7_ false false m r L1 L2 (by show m ≠ 9223372036854775808; omega) (by show r ≠ 9223372036854775808; omega)
    rw [show (if Fq.plz false r > Fq.plz false m then Fq.wD false r else Fq.wD false m) = max m r from by rw [P3, P3]; show (if (r : Int) > m then r else m) = _; split <;> omega] at hmx
    rw [show (if Fq.plz false r < Fq.plz false m then Fq.wD false r else Fq.wD false m) = min m r from by rw [P3, P3]; show (if (r : Int) < m then r else m) = _; split <;> omega] at hmn
    have hh := holdsA_ (Fq.wD n m) (Fq.wD g r) _ _ (ole7 n m L1) (oge7 g r L2)
    have hmg : ∀ w : World, Calls Tryz.prog 12 #[.agg #[.float .f64 (Fq.wD n m), .float .f64 (Fq.wD g r)]] w fun e w' => e = .returned (.tuple #[.float .f64 (if 0 < Fq.plz n m then m else if Fq.plz g r < 0 then r else 0), .float .f64 (max m r)]) ∧ Kp w w' := by
      by_cases y1 : 0 < Fq.plz n m
      · rw [if_pos y1]
        rw [decide_eq_false (by omega), Bool.false_and] at hh
        have b : min m r = m := by
          rw [P1, P2] at hle; rw [P1] at y1
          cases n <;> cases g <;> simp at hle y1 <;> omega
        rw [b] at hmn
        exact magnF_ _ _ m r _ _ (abs_ n m (by omega)) (abs_ g r (by omega)) hmx hmn hh
      · rw [if_neg y1]
        by_cases y2 : Fq.plz g r < 0
        · rw [if_pos y2]
          rw [decide_eq_false (by omega : ¬ 0 ≤ Fq.plz g r), Bool.and_false] at hh
          have b : min m r = r := by
            rw [P1, P2] at hle; rw [P2] at y2
            cases n <;> cases g <;> simp at hle y2 <;> omega
          rw [b] at hmn
          exact magnF_ _ _ m r _ _ (abs_ n m (by omega)) (abs_ g r (by omega)) hmx hmn hh
        · rw [if_neg y2]
          rw [decide_eq_true (by omega), decide_eq_true (by omega : 0 ≤ Fq.plz g r), Bool.true_and] at hh
          exact magnT_ _ _ m r _ _ (abs_ n m (by omega)) (abs_ g r (by omega)) hmx hmn hh
    refine ⟨sqW7 (-1) (if 0 < Fq.plz n m then m else if Fq.plz g r < 0 then r else 0), sqW7 1 (max m r), fun w hT hQ => sqrS_ a b _ _ hp hv0 _ _ _ _ hmg w (fun W y => psq7_ (-1) _ (by omega) (by decide) (by decide) W (Tab.grown hT y) (Fq.Tab.grown hQ y)) (fun W y => psq7_ 1 _ (by omega) (by decide) (by decide) W (Tab.grown hT y) (Fq.Tab.grown hQ y)), fun w => ?_⟩
    exact rsqr7c_ _ _ _ _ (SV1 n m g r) (SW1 (if 0 < Fq.plz n m then m else if Fq.plz g r < 0 then r else 0) (max m r)) w (fun W _ => ofSound_ a b ha hb s1 n g m r L1 L2 e1 e2 W) (fun W v _ h => (squareV_ n g m r L1 L2 hle W v h).mono (fun e w' q => by obtain ⟨⟨v', h1, h2⟩, h3⟩ := q; exact ⟨v', h1, h2, h3⟩)) (fun W v _ h => leastW_ _ _ hlo (by omega) W v h)
  · have s1 : Fq.snd a b = false := by simpa using s1
    rw [s1] at hv0
    refine ⟨9218868437227405312, 18442240474082181120, fun w _ _ => sqrV_ a b _ _ hp hv0 hE w, fun w => ?_⟩
    exact rsqr7c_ _ _ _ _ (fun _ v => SV0 true v) (fun _ v => SV0 true v) w (fun W _ => ofEmpty_ a b ha hb s1 W) (fun W v _ h => squareX_ W v h) (fun W v _ h => leastN_ W v h)
set_option maxRecDepth 20000 in
set_option maxHeartbeats 4000000 in
theorem ivsqrs_ (a b : Nat) (ha : a < 18446744073709551616) (hb : b < 18446744073709551616) (w : World) (hT : Tab w) (hQ : Fq.Tab w) : Calls Tryz.prog 3 #[.agg #[.int .u64 ((a : Nat) : Int), .int .u64 ((b : Nat) : Int)]] w fun e w' => e = .returned (.bool true) ∧ Kp w w' := by
  obtain ⟨LO, HI, hP0, hR⟩ := sqr_both6 a b ha hb
  have hP : ∀ W : World, Kp w W → Calls Tryz.prog 5 #[.agg #[.float .f64 a, .float .f64 b]] W fun e w' => e = .returned (.agg #[.float .f64 LO, .float .f64 HI]) ∧ Kp W w' := fun W y => hP0 W (Tab.grown hT y) (Fq.Tab.grown hQ y)
  clear hP0 hQ hT
  have h1 := Fq.in_ a b
  have hO := Fq.out_ LO HI
  clear ha hb
  generalize (LO : Int) = LI at hR hO
  generalize (HI : Int) = HJ at hR hO
  generalize (a : Int) = X at h1 hR ⊢
  generalize (b : Int) = Y at h1 hR ⊢
  go_enter Tryz.func3, Tryz.ntmps3
  go_wp2
  refine Fq.wp_region_grow (by kernel_rfl) (by kernel_rfl) (fun ι _ G hG hall => ?_)
  have cc0 : ∀ n, (G n).cell? ⟨w.heap.size, 0, none⟩ = some (.int .u64 X) := fun n => Fq.gkeep (hG n) (by simp [go_sem])
  have cc1 : ∀ n, (G n).cell? ⟨w.heap.size, 1, none⟩ = some (.int .u64 Y) := fun n => Fq.gkeep (hG n) (by simp [go_sem])
  have kG : ∀ n, Kp w (G n) := fun n => Kp.trans ((Kp.refl w).alloc _) (hG n)
  repeat (go_big_quiet_step (first | (go_at_call 6; exact (h1 _).mono (fun e w' h => ⟨h.1, hall _ (Fq.gtrans (hG _) h.2)⟩)) | (go_at_call 5; exact (hP _ (kG _)).mono (fun e w' h => ⟨h.1, hall _ (Fq.gtrans (hG _) h.2)⟩)) | (go_at_call 4; exact (hO _).mono (fun e w' h => ⟨h.1, hall _ (Fq.gtrans (hG _) h.2)⟩)) | (go_at_call 7; exact (hR _).mono (fun e w' h => ⟨h.1, hall _ (Fq.gtrans (hG _) h.2)⟩))))
  refine wpQuiet_nil ?_
  rintro _ ⟨nq, rfl⟩
  have gq : Kp w (G nq) := Kp.trans ((Kp.refl w).alloc _) (hG nq)
  clear cc0 cc1 hall hG kG
  go_wp2
  exact bodyPost_ret (v := .bool true) (by simp [results, Tryz.results3, go_sem]) rfl ⟨rfl, gq⟩
end Go.Proofs.YtidpeakojcgngaaGreatDoor
