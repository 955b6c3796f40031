import Derived.Test.YtflhcnmbondpnaaProg
import Derived.Test.YtflhcnmbondpnaaKXA0
import Derived.Test.YtflhcnmbondpnaaKXM
import Derived.Test.YtflhcnmbondpnaaKXY
import Derived.Test.YtflhcnmbondpnaaKXQF
import Derived.Test.YtflhcnmbondpnaaKQA
import Derived.Test.YtflhcnmbondpnaaKXQU
import Derived.Test.YtflhcnmbondpnaaKXEA
import Derived.Test.YtflhcnmbondpnaaKXED
import Derived.Test.YtflhcnmbondpnaaKMR7Q
import Derived.Test.YtflhcnmbondpnaaKXMR
import Derived.Test.YtflhcnmbondpnaaKXM3
import Derived.Test.YtflhcnmbondpnaaKXO
import Derived.Test.YtflhcnmbondpnaaKXO3
import Derived.Test.YtflhcnmbondpnaaKXT
import Derived.Test.YtflhcnmbondpnaaKHB
import Derived.Test.YtflhcnmbondpnaaKLX
import Derived.Test.YtflhcnmbondpnaaKRX
import Derived.Test.YtflhcnmbondpnaaKXRL
import Derived.Test.YtflhcnmbondpnaaKXCO
import Derived.Test.YtflhcnmbondpnaaKLN
import Derived.Test.YtflhcnmbondpnaaKRN
import Derived.Test.YtflhcnmbondpnaaKW4
import Derived.Test.YtflhcnmbondpnaaKBY
import Derived.Test.YtflhcnmbondpnaaKBW
import Derived.Test.YtflhcnmbondpnaaKXTZ
import Derived.Test.YtflhcnmbondpnaaKXG1
import Derived.Test.YtflhcnmbondpnaaKNSm
import Derived.Test.YtflhcnmbondpnaaKXH2Q
import Derived.Test.YtflhcnmbondpnaaKXG4
import Derived.Test.YtflhcnmbondpnaaKXET
import Derived.Test.YtflhcnmbondpnaaKXEG
import Derived.Test.YtflhcnmbondpnaaKXEC
import Derived.Test.YtflhcnmbondpnaaKXPC
import Derived.Test.YtflhcnmbondpnaaKXPD
import Derived.Test.YtflhcnmbondpnaaKXPM
import Derived.Test.YtflhcnmbondpnaaKPMa
import Derived.Test.YtflhcnmbondpnaaKPMn
import Derived.Test.YtflhcnmbondpnaaKXPO
import Derived.Test.YtflhcnmbondpnaaKPMp
import Derived.WalkKit
import Derived.ProofKit
import Derived.RowKit3
import Derived.WalkSpells
import Derived.StillTactics
import Derived.Deep.QuietTactic
import Derived.BigQuiet
import Derived.Below
import Derived.Deep.OwnRows
import Derived.OwnWalk
import Derived.Laws.BitsAllLaws
import Derived.Laws.Slices
import Derived.Laws.Bits64b
import Derived.Laws.FloatArith
import Derived.Deep.RegionHeld3
namespace Go.Proofs.Ytflhcnmbondpnaa
open Go.RowKit

set_option linter.unusedVariables false
set_option maxRecDepth 20000 in
set_option maxHeartbeats 1000000 in
theorem rabs7c_ (X Y LO HI : Int) (P1 P2 : World → Value → Prop) (w : World) (hO : ∀ W : World, Kp w W → Calls Try.prog 19 #[.agg #[.int .u64 X, .int .u64 Y]] W fun e w' => ∃ v, e = .returned v ∧ P1 w' v ∧ Kp W w') (hMi : ∀ (W : World) (v : Value), Kp w W → P1 W v → Calls Try.prog 18 #[v] W fun e w' => ∃ v', e = .returned v' ∧ P2 w' v' ∧ Kp W w') (hLe : ∀ (W : World) (v : Value), Kp w W → P2 W v → Calls Try.prog 17 #[v] W fun e w' => e = .returned (.agg #[.int .u64 LO, .int .u64 HI]) ∧ Kp W w') : Calls Try.prog 7 #[.agg #[.int .u64 X, .int .u64 Y]] w fun e w' => e = .returned (.agg #[.int .u64 LO, .int .u64 HI]) ∧ Kp w w' := by
  go_enter Try.func7, Try.ntmps7
  go_wp2_with (first | (go_at_call 19; refine (hO _ ?q0).mono ?_; (case q0 => exact ((Kp.refl w).alloc _).alloc _); rintro e w1 ⟨v1, rfl, hv1, g1⟩; have k1 : Kp w w1 := Kp.trans (((Kp.refl w).alloc _).alloc _) g1; have r0 := kkeep g1 (b := w.heap.size + 1) (o := 0) (v := .int .u64 0) (by simp [go_sem]); have rz0 : w1.frozen? ⟨w.heap.size + 1, 0, none⟩ = false := (kfro g1 (by simp <;> omega)).trans (by simp [go_sem]); have r1 := kkeep g1 (b := w.heap.size + 1) (o := 1) (v := .int .u64 0) (by simp [go_sem]); have rz1 : w1.frozen? ⟨w.heap.size + 1, 1, none⟩ = false := (kfro g1 (by simp <;> omega)).trans (by simp [go_sem])) | (go_at_call 18; refine (hMi _ v1 k1 hv1).mono ?_; rintro e w2 ⟨v2, rfl, hv2, g2⟩; have k2 := Kp.trans k1 g2; have x0 := kkeep g2 r0; have xz0 : w2.frozen? ⟨w.heap.size + 1, 0, none⟩ = false := (kfro g2 (cell_lt r0)).trans rz0; have x1 := kkeep g2 r1; have xz1 : w2.frozen? ⟨w.heap.size + 1, 1, none⟩ = false := (kfro g2 (cell_lt r1)).trans rz1) | (go_at_call 17; refine (hLe _ v2 k2 hv2).mono ?_; rintro e w3 ⟨rfl, g3⟩; have k3 := Kp.trans k2 g3; have R0 := kkeep g3 x0; have Rz0 : w3.frozen? ⟨w.heap.size + 1, 0, none⟩ = false := (kfro g3 (cell_lt x0)).trans xz0; have R1 := kkeep g3 x1; have Rz1 : w3.frozen? ⟨w.heap.size + 1, 1, none⟩ = false := (kfro g3 (cell_lt x1)).trans xz1))
  exact bodyPost_ret (v := .agg #[.int .u64 LO, .int .u64 HI]) (by simp [results, Try.results7, go_sem, R0, R1]) rfl ⟨rfl, ((k3).setCell (by simp) _).setCell (by simp) _⟩
theorem szq_sv {m r : Nat} {e : Ending} {w' : World} (h : SzQ (infS false m) (infS false r) (fN false m) (fM m) (fN false r) (fM r) e w') : ∃ v, e = .returned v ∧ SV1 false m false r w' v := by
  obtain ⟨s3, p3, l3, c3, q3, k3, d3, s5, p5, l5, c5, q5, k5, d5, rfl, h1, h2⟩ := h
  exact ⟨_, rfl, s3, p3, l3, c3, q3, k3, d3, s5, p5, l5, c5, q5, k5, d5, rfl, h1, h2⟩
set_option maxHeartbeats 2000000 in
theorem sizeV_ (n g : Bool) (m r : Nat) (hm : m ≤ 9218868437227405312) (hr : r ≤ 9218868437227405312) (z1 : n = true → m ≠ 0) (z2 : g = true → r ≠ 0) (hle : Fq.plz n m ≤ Fq.plz g r) (W : World) (v : Value) (h : SV1 n m g r W v) : Calls Try.prog 18 #[v] W fun e w' => (∃ v', e = .returned v' ∧ SV1 false (if 0 < Fq.plz n m then m else if Fq.plz g r < 0 then r else 0) false (max m r) w' v') ∧ Kp W w' := by
  obtain ⟨s, p, l, c, q, k, d, s2, p2, l2, c2, q2, k2, d2, rfl, u1, u2⟩ := h
  have hM1 := fun (V : World) (y : Kp W V) => mag7_ n m hm z1 s p l c q k d 0 W u1 V y
  have hM2 := fun (V : World) (y : Kp W V) => mag7_ g r hr z2 s2 p2 l2 c2 q2 k2 d2 0 W u2 V y
  have hC := fun (V : World) (s3 : Bool) (p3 : Option Addr) (l3 c3 : Nat) (q3 : Option Addr) (k3 d3 : Nat) (s5 : Bool) (p5 : Option Addr) (l5 c5 : Nat) (q5 : Option Addr) (k5 d5 : Nat) (y1 : RP 0 V s3 p3 l3 c3 q3 k3 d3 (fN false m) (fM m)) (y2 : RP 0 V s5 p5 l5 c5 q5 k5 d5 (fN false r) (fM r)) => cmpE_ 0 0 false false m r hm hr s3 p3 l3 c3 q3 k3 d3 s5 p5 l5 c5 q5 k5 d5 V y1 y2
  have hS1 := fun (V : World) (y : Kp W V) => signE_ n m s p l c q k d 0 V (u1.kp y)
  have hS2 := fun (V : World) (y : Kp W V) => signE_ g r s2 p2 l2 c2 q2 k2 d2 0 V (u2.kp y)
  have P1 : Fq.plz n m = if n then -(m : Int) else m := by unfold Fq.plz; cases n <;> rfl
  have P2 : Fq.plz g r = if g then -(r : Int) else r := by unfold Fq.plz; cases g <;> rfl
  have P3 : ∀ x : Nat, Fq.plz false x = (x : Int) := fun x => by unfold Fq.plz; rfl
  have cle : ∀ x y : Int, x ≤ y → ¬ (0 < cmI x y) := fun x y h => by unfold cmI; split <;> first | omega | (rw [if_neg (by omega)]; omega)
  have cgt : ∀ x y : Int, y < x → 0 < cmI x y := fun x y h => by rw [cmI_gt x y h]; decide
  have cng : ∀ x y : Int, y ≤ x → 0 ≤ cmI x y := fun x y h => by unfold cmI; rw [if_neg (by omega)]; split <;> omega
  have cnl : ∀ x y : Int, x ≤ y → cmI x y ≤ 0 := fun x y h => by unfold cmI; split <;> first | omega | (rw [if_neg (by omega)]; omega)
  by_cases y1 : 0 < Fq.plz n m
  · rw [if_pos y1]
    have e : max m r = r := by
      rw [P1, P2] at hle; rw [P1] at y1
      cases n <;> cases g <;> simp at hle y1 <;> omega
    rw [e]
    have b : m ≤ r := by omega
    exact ((sizeN1_ (infS n m) (infS g r) (infS false m) (infS false r) (cmI (Fq.plz false m) (Fq.plz false r)) (cmI (Fq.plz n m) 0) (cmI (Fq.plz g r) 0) (fN false m) (fN false r) (fM m) (fM r) s p l c q k d s2 p2 l2 c2 q2 k2 d2 (cle _ _ (by rw [P3, P3]; omega)) (by have := cgt _ _ y1; omega) W hM1 hM2 hC hS1 hS2 fin0_).mono fun e w' h => ⟨szq_sv h.1, h.2⟩)
  · rw [if_neg y1]
    by_cases y2 : Fq.plz g r < 0
    · rw [if_pos y2]
      have b : r ≤ m := by
        rw [P1, P2] at hle; rw [P2] at y2
        cases n <;> cases g <;> simp at hle y2 <;> omega
      rw [show max m r = m from by omega]
      by_cases y3 : r < m
      · exact ((sizeS2_ (infS n m) (infS g r) (infS false m) (infS false r) (cmI (Fq.plz false m) (Fq.plz false r)) (cmI (Fq.plz n m) 0) (cmI (Fq.plz g r) 0) (fN false m) (fN false r) (fM m) (fM r) s p l c q k d s2 p2 l2 c2 q2 k2 d2 (cgt _ _ (by rw [P3, P3]; omega)) (cnl _ _ (by omega)) (by rw [cmI_lt _ _ y2]; decide) W hM1 hM2 hC hS1 hS2 fin0_).mono fun e w' h => ⟨szq_sv h.1, h.2⟩)
      · have y4 : r = m := by omega
        exact ((sizeN2_ (infS n m) (infS g r) (infS false m) (infS false r) (cmI (Fq.plz false m) (Fq.plz false r)) (cmI (Fq.plz n m) 0) (cmI (Fq.plz g r) 0) (fN false m) (fN false r) (fM m) (fM r) s p l c q k d s2 p2 l2 c2 q2 k2 d2 (cle _ _ (by rw [P3, P3]; omega)) (cnl _ _ (by omega)) (by rw [cmI_lt _ _ y2]; decide) W hM1 hM2 hC hS1 hS2 fin0_).mono fun e w' h => ⟨(by have q9 := szq_sv h.1; rw [y4] at q9 ⊢; exact q9), h.2⟩)
    · rw [if_neg y2]
      by_cases y3 : r < m
      · rw [show max m r = m from by omega]
        exact ((sizeS3_ (infS n m) (infS g r) (infS false m) (infS false r) (cmI (Fq.plz false m) (Fq.plz false r)) (cmI (Fq.plz n m) 0) (cmI (Fq.plz g r) 0) (fN false m) (fN false r) (fM m) (fM r) s p l c q k d s2 p2 l2 c2 q2 k2 d2 (cgt _ _ (by rw [P3, P3]; omega)) (cnl _ _ (by omega)) (cng _ _ (by omega)) W hM1 hM2 hC hS1 hS2 fin0_).mono fun e w' h => ⟨szq_sv h.1, h.2⟩)
      · rw [show max m r = r from by omega]
        exact ((sizeN3_ (infS n m) (infS g r) (infS false m) (infS false r) (cmI (Fq.plz false m) (Fq.plz false r)) (cmI (Fq.plz n m) 0) (cmI (Fq.plz g r) 0) (fN false m) (fN false r) (fM m) (fM r) s p l c q k d s2 p2 l2 c2 q2 k2 d2 (cle _ _ (by rw [P3, P3]; omega)) (cnl _ _ (by omega)) (cng _ _ (by omega)) W hM1 hM2 hC hS1 hS2 fin0_).mono fun e w' h => ⟨szq_sv h.1, h.2⟩)
theorem max3A_ (X Y R S : Nat) (ho : (FloatKind.f64.format.order X Y = some .lt ∧ R = Y) ∨ (FloatKind.f64.format.order X Y = some .gt ∧ R = X) ∨ (X = Y ∧ R = X ∧ FloatKind.f64.format.order X X = some .eq)) (hz : (FloatKind.f64.format.order R 0 = some .lt ∧ S = 0) ∨ (FloatKind.f64.format.order R 0 = some .gt ∧ S = R) ∨ (R = 0 ∧ S = 0 ∧ FloatKind.f64.format.order 0 0 = some .eq)) (ts : Array TypeId) (t : TypeId) (w : World) : (Builtin.max_ ts t #[.float .f64 X, .float .f64 Y, .float .f64 0]).run Try.prog w = .ok (.float .f64 S) w := by
  rcases ho with ⟨h, rfl⟩ | ⟨h, rfl⟩ | ⟨rfl, rfl, h⟩ <;> rcases hz with ⟨h2, rfl⟩ | ⟨h2, rfl⟩ | ⟨rfl, rfl, h2⟩ <;> simp [Builtin.max_, Builtin.max2, h, h2]
theorem cmI_nlt (x y : Int) (h : ¬ x < y) : ¬ (cmI x y < 0) := by unfold cmI; rw [if_neg h]; split <;> omega
theorem cmI_ngt (x y : Int) (h : ¬ y < x) : ¬ (0 < cmI x y) := by unfold cmI; rw [if_neg h]; split <;> omega
theorem of7_ (a b : Nat) (ha : a < 18446744073709551616) (hb : b < 18446744073709551616) (hs : Fq.snd a b = true) (n n' : Bool) (m m' : Nat) (hm : m ≤ 9218868437227405312) (hm' : m' ≤ 9218868437227405312) (e1 : Fq.rlo a b = Fq.wD n m) (e2 : Fq.rhi a b = Fq.wD n' m') (w : World) : Calls Try.prog 19 #[.agg #[.int .u64 ((a : Nat) : Int), .int .u64 ((b : Nat) : Int)]] w fun e w' => ∃ (s : Bool) (p : Option Addr) (l c : Nat) (q : Option Addr) (k d : Nat) (s2 : Bool) (p2 : Option Addr) (l2 c2 : Nat) (q2 : Option Addr) (k2 d2 : Nat), e = .returned (.agg #[.bool false, .int .i64 (infS n m), .bool s, .slice p l c, .slice q k d, .int .i64 (infS n' m'), .bool s2, .slice p2 l2 c2, .slice q2 k2 d2]) ∧ RP w.heap.size w' s p l c q k d (fN n m) (fM m) ∧ RP w.heap.size w' s2 p2 l2 c2 q2 k2 d2 (fN n' m') (fM m') ∧ Kp w w' := by
  have hr : ∀ w : World, Calls Try.prog 31 #[.agg #[.int .u64 ((a : Nat) : Int), .int .u64 ((b : Nat) : Int)]] w fun e w' => e = .returned (.agg #[.int .u64 ((Fq.wD n m : Nat) : Int), .int .u64 ((Fq.wD n' m' : Nat) : Int)]) ∧ Kp w w' := by
    rw [← e1, ← e2]
    obtain ⟨n, m, hm, rfl⟩ := Fq.exD a ha
    obtain ⟨n', m', hm', rfl⟩ := Fq.exD b hb
    exact fun w => Fq.rread_ n n' m m' hm hm' w
  have t1 : ((((Fq.wD n m : Nat) : Int)) == 9218868437227405312) = false := by
    have h1 : Fq.rlo a b ≠ 9218868437227405312 := by
      have h2 : a ≠ 9218868437227405312 := by intro h; rw [h] at hs; simp [Fq.snd] at hs
      simp only [Fq.rlo, hs, if_true, Fq.pla]; split <;> omega
    rw [e1] at h1
    simp; omega
  exact ofS_ _ _ _ _ _ _ _ _ _ _ hr (bound_ n m hm (e1 ▸ rlo_ne a b)) (bound_ n' m' hm' (e2 ▸ rhi_ne a b)) t1 w
theorem ofE7_ (a b : Nat) (ha : a < 18446744073709551616) (hb : b < 18446744073709551616) (hs : Fq.snd a b = false) (w : World) : Calls Try.prog 19 #[.agg #[.int .u64 ((a : Nat) : Int), .int .u64 ((b : Nat) : Int)]] w fun e w' => ∃ (s : Bool) (p : Option Addr) (l c : Nat) (q : Option Addr) (k d : Nat) (s2 : Bool) (p2 : Option Addr) (l2 c2 : Nat) (q2 : Option Addr) (k2 d2 : Nat), e = .returned (.agg #[.bool true, .int .i64 0, .bool s, .slice p l c, .slice q k d, .int .i64 0, .bool s2, .slice p2 l2 c2, .slice q2 k2 d2]) ∧ RP w.heap.size w' s p l c q k d false 0 ∧ RP w.heap.size w' s2 p2 l2 c2 q2 k2 d2 false 0 ∧ Kp w w' := by
  have hr : ∀ w : World, Calls Try.prog 31 #[.agg #[.int .u64 ((a : Nat) : Int), .int .u64 ((b : Nat) : Int)]] w fun e w' => e = .returned (.agg #[.int .u64 9218868437227405312, .int .u64 18442240474082181120]) ∧ Kp w w' := by
    obtain ⟨n, m, hm, rfl⟩ := Fq.exD a ha
    obtain ⟨n', m', hm', rfl⟩ := Fq.exD b hb
    intro w
    have h := Fq.rread_ n n' m m' hm hm' w
    rw [show Fq.rlo (Fq.wD n m) (Fq.wD n' m') = 9218868437227405312 from by simp [Fq.rlo, hs], show Fq.rhi (Fq.wD n m) (Fq.wD n' m') = 18442240474082181120 from by simp [Fq.rhi, hs]] at h
    exact h
  exact ofE_ _ _ hr w
theorem pla7 (n : Bool) (m : Nat) (h : Fq.wD n m ≠ 9223372036854775808) : Fq.pla (Fq.wD n m) = Fq.wD n m := by unfold Fq.pla; rw [if_neg h]
theorem rempty7K_ (w : World) : Calls Try.prog 21 #[] w fun e w' => e = .returned (.agg #[.int .u64 9218868437227405312, .int .u64 18442240474082181120]) ∧ Kp w w' := (Fq.rempty_ w).mono (fun e w' h => ⟨h.1, by rw [h.2]; exact (Kp.refl w).alloc _⟩)
theorem min_both7 (a b c d : Nat) (ha : a < 18446744073709551616) (hb : b < 18446744073709551616) (hc : c < 18446744073709551616) (hd : d < 18446744073709551616) : ∃ LO HI : Nat, (∀ w : World, Calls Try.prog 8 #[.agg #[.float .f64 a, .float .f64 b], .agg #[.float .f64 c, .float .f64 d]] w fun e w' => e = .returned (.agg #[.float .f64 LO, .float .f64 HI]) ∧ Kp w w') ∧ (∀ w : World, Calls Try.prog 9 #[.agg #[.int .u64 ((a : Nat) : Int), .int .u64 ((b : Nat) : Int)], .agg #[.int .u64 ((c : Nat) : Int), .int .u64 ((d : Nat) : Int)]] w fun e w' => e = .returned (.agg #[.int .u64 ((LO : Nat) : Int), .int .u64 ((HI : Nat) : Int)]) ∧ Kp w w') := by
  have hp := Fq.read_ a b ha hb
  have hp2 := Fq.read_ c d hc hd
  by_cases s1 : Fq.snd a b = true
  · obtain ⟨n, m, L1, e1⟩ := rlo_w a b ha hb
    obtain ⟨g, r, L2, e2⟩ := rhi_w a b ha hb
    have i1 := rlo_inf a b s1 n m e1
    have i2 := rhi_inf a b s1 g r e2
    have Q1 : Fq.wD n m ≠ 9223372036854775808 := e1 ▸ rlo_ne a b
    have Q2 : Fq.wD g r ≠ 9223372036854775808 := e2 ▸ rhi_ne a b
    have hv := voidP8_ a b ha hb false (by simpa using s1)
    have hO1' := of7_ a b ha hb s1 n g m r L1 L2 e1 e2
    rw [e1, e2] at hp hv
    by_cases s2 : Fq.snd c d = true
    · obtain ⟨n', m', L3, e3⟩ := rlo_w c d hc hd
      obtain ⟨g', r', L4, e4⟩ := rhi_w c d hc hd
      have i3 := rlo_inf c d s2 n' m' e3
      have i4 := rhi_inf c d s2 g' r' e4
      have Q3 : Fq.wD n' m' ≠ 9223372036854775808 := e3 ▸ rlo_ne c d
      have Q4 : Fq.wD g' r' ≠ 9223372036854775808 := e4 ▸ rhi_ne c d
      have hv2 := voidP8_ c d hc hd false (by simpa using s2)
      have hO2 := of7_ c d hc hd s2 n' g' m' r' L3 L4 e3 e4
      rw [e3, e4] at hp2 hv2
      have hO1 : ∀ W : World, Calls Try.prog 19 #[.agg #[.int .u64 ((a : Nat) : Int), .int .u64 ((b : Nat) : Int)]] W fun e w' => ∃ (s : Bool) (p : Option Addr) (l c : Nat) (q : Option Addr) (k d : Nat) (s2 : Bool) (p2 : Option Addr) (l2 c2 : Nat) (q2 : Option Addr) (k2 d2 : Nat), e = .returned (.agg #[.bool false, .int .i64 (infS n m), .bool s, .slice p l c, .slice q k d, .int .i64 (infS g r), .bool s2, .slice p2 l2 c2, .slice q2 k2 d2]) ∧ RP 0 w' s p l c q k d (fN n m) (fM m) ∧ RP 0 w' s2 p2 l2 c2 q2 k2 d2 (fN g r) (fM r) ∧ Kp W w' := fun W => (hO1' W).mono (by
        rintro e w' ⟨s, p, l, c, q, k, d, s2, p2, l2, c2, q2, k2, d2, rfl, u1, u2, gg⟩
        exact ⟨s, p, l, c, q, k, d, s2, p2, l2, c2, q2, k2, d2, rfl, u1.mono (Nat.zero_le _), u2.mono (Nat.zero_le _), gg⟩)
      have hc1 := fun (W : World) (s : Bool) (p : Option Addr) (l c : Nat) (q : Option Addr) (k d : Nat) (s5 : Bool) (p5 : Option Addr) (l5 c5 : Nat) (q5 : Option Addr) (k5 d5 : Nat) (u1 : RP 0 W s p l c q k d (fN n m) (fM m)) (u2 : RP 0 W s5 p5 l5 c5 q5 k5 d5 (fN n' m') (fM m')) => cmpE_ 0 0 n' n m' m L3 L1 s5 p5 l5 c5 q5 k5 d5 s p l c q k d W u2 u1
      have hc2 := fun (W : World) (s2 : Bool) (p2 : Option Addr) (l2 c2 : Nat) (q2 : Option Addr) (k2 d2 : Nat) (s6 : Bool) (p6 : Option Addr) (l6 c6 : Nat) (q6 : Option Addr) (k6 d6 : Nat) (u1 : RP 0 W s2 p2 l2 c2 q2 k2 d2 (fN g r) (fM r)) (u2 : RP 0 W s6 p6 l6 c6 q6 k6 d6 (fN g' r') (fM r')) => cmpE_ 0 0 g' g r' r L4 L2 s6 p6 l6 c6 q6 k6 d6 s2 p2 l2 c2 q2 k2 d2 W u2 u1
      refine ⟨(if Fq.plz n' m' < Fq.plz n m then Fq.wD n' m' else Fq.wD n m), (if Fq.plz g' r' < Fq.plz g r then Fq.wD g' r' else Fq.wD g r), fun w => minn_ a b c d _ _ _ _ _ _ hp hp2 hv hv2 (min7_ n n' m m' L1 L3 Q1 Q3) (min7_ g g' r r' L2 L4 Q2 Q4) w, fun w => ?_⟩
      by_cases c1 : Fq.plz n' m' < Fq.plz n m
      · rw [if_pos c1]
        by_cases c2 : Fq.plz g' r' < Fq.plz g r
        · rw [if_pos c2]
          exact rminTT_ _ _ _ _ _ _ _ _ _ _ _ _ _ _ _ _ _ _ _ _ hO1 hO2 hc1 hc2 (fun W s5 p5 l5 c5 q5 k5 d5 s6 p6 l6 c6 q6 k6 d6 u1 u2 => by
            have h := leastV_ n' g' m' r' L3 L4 i3 i4 W _ ⟨s5, p5, l5, c5, q5, k5, d5, s6, p6, l6, c6, q6, k6, d6, rfl, u1, u2⟩
            rw [pla7 _ _ Q3, pla7 _ _ Q4] at h
            exact h) (by rw [cmI_lt _ _ (by omega)]; decide) (by rw [cmI_lt _ _ (by omega)]; decide) w
        · rw [if_neg c2]
          exact rminTS_ _ _ _ _ _ _ _ _ _ _ _ _ _ _ _ _ _ _ _ _ hO1 hO2 hc1 hc2 (fun W s5 p5 l5 c5 q5 k5 d5 s2 p2 l2 c2 q2 k2 d2 u1 u2 => by
            have h := leastV_ n' g m' r L3 L2 i3 i2 W _ ⟨s5, p5, l5, c5, q5, k5, d5, s2, p2, l2, c2, q2, k2, d2, rfl, u1, u2⟩
            rw [pla7 _ _ Q3, pla7 _ _ Q2] at h
            exact h) (by rw [cmI_lt _ _ (by omega)]; decide) (cmI_nlt _ _ (by omega)) w
      · rw [if_neg c1]
        by_cases c2 : Fq.plz g' r' < Fq.plz g r
        · rw [if_pos c2]
          exact rminST_ _ _ _ _ _ _ _ _ _ _ _ _ _ _ _ _ _ _ _ _ hO1 hO2 hc1 hc2 (fun W s p l c q k d s6 p6 l6 c6 q6 k6 d6 u1 u2 => by
            have h := leastV_ n g' m r' L1 L4 i1 i4 W _ ⟨s, p, l, c, q, k, d, s6, p6, l6, c6, q6, k6, d6, rfl, u1, u2⟩
            rw [pla7 _ _ Q1, pla7 _ _ Q4] at h
            exact h) (cmI_nlt _ _ (by omega)) (by rw [cmI_lt _ _ (by omega)]; decide) w
        · rw [if_neg c2]
          exact rminSS_ _ _ _ _ _ _ _ _ _ _ _ _ _ _ _ _ _ _ _ _ hO1 hO2 hc1 hc2 (fun W s p l c q k d s2 p2 l2 c2 q2 k2 d2 u1 u2 => by
            have h := leastV_ n g m r L1 L2 i1 i2 W _ ⟨s, p, l, c, q, k, d, s2, p2, l2, c2, q2, k2, d2, rfl, u1, u2⟩
            rw [pla7 _ _ Q1, pla7 _ _ Q2] at h
            exact h) (cmI_nlt _ _ (by omega)) (cmI_nlt _ _ (by omega)) w
    · have s2 : Fq.snd c d = false := by simpa using s2
      have hv2 := voidP8_ c d hc hd true (by simpa using s2)
      refine ⟨9218868437227405312, 18442240474082181120, fun w => minv2_ a b c d _ _ _ _ hp hp2 hv hv2 empty7K_ w, fun w => ?_⟩
      exact rminE2_ _ _ _ _ _ _ _ _ w (fun W _ => (hO1' W).mono (by rintro e w' ⟨s, p, l, c, q, k, d, s2, p2, l2, c2, q2, k2, d2, rfl, -, -, gg⟩; exact ⟨s, p, l, c, q, k, d, s2, p2, l2, c2, q2, k2, d2, rfl, trivial, trivial, gg⟩)) (fun W _ => (ofE7_ c d hc hd s2 W).mono (by rintro e w' ⟨s, p, l, c, q, k, d, s2, p2, l2, c2, q2, k2, d2, rfl, -, -, gg⟩; exact ⟨s, p, l, c, q, k, d, s2, p2, l2, c2, q2, k2, d2, rfl, trivial, trivial, gg⟩)) rempty7K_
  · have s1 : Fq.snd a b = false := by simpa using s1
    have hv := voidP8_ a b ha hb true (by simpa using s1)
    refine ⟨9218868437227405312, 18442240474082181120, fun w => minv1_ a b c d _ _ _ _ hp hp2 hv empty7K_ w, fun w => ?_⟩
    have hO1 : ∀ W : World, Calls Try.prog 19 #[.agg #[.int .u64 ((a : Nat) : Int), .int .u64 ((b : Nat) : Int)]] W fun e w' => ∃ (s : Bool) (p : Option Addr) (l c : Nat) (q : Option Addr) (k d : Nat) (s2 : Bool) (p2 : Option Addr) (l2 c2 : Nat) (q2 : Option Addr) (k2 d2 : Nat), e = .returned (.agg #[.bool true, .int .i64 0, .bool s, .slice p l c, .slice q k d, .int .i64 0, .bool s2, .slice p2 l2 c2, .slice q2 k2 d2]) ∧ True ∧ True ∧ Kp W w' := fun W => (ofE7_ a b ha hb s1 W).mono (by rintro e w' ⟨s, p, l, c, q, k, d, s2, p2, l2, c2, q2, k2, d2, rfl, -, -, gg⟩; exact ⟨s, p, l, c, q, k, d, s2, p2, l2, c2, q2, k2, d2, rfl, trivial, trivial, gg⟩)
    by_cases s2 : Fq.snd c d = true
    · obtain ⟨n', m', L3, e3⟩ := rlo_w c d hc hd
      obtain ⟨g', r', L4, e4⟩ := rhi_w c d hc hd
      exact rminE1_ _ _ _ _ _ _ _ _ false w (fun W _ => hO1 W) (fun W _ => (of7_ c d hc hd s2 n' g' m' r' L3 L4 e3 e4 W).mono (by rintro e w' ⟨s, p, l, c, q, k, d, s2, p2, l2, c2, q2, k2, d2, rfl, -, -, gg⟩; exact ⟨s, p, l, c, q, k, d, s2, p2, l2, c2, q2, k2, d2, rfl, trivial, trivial, gg⟩)) rempty7K_
    · have s2 : Fq.snd c d = false := by simpa using s2
      exact rminE1_ _ _ _ _ _ _ _ _ true w (fun W _ => hO1 W) (fun W _ => (ofE7_ c d hc hd s2 W).mono (by rintro e w' ⟨s, p, l, c, q, k, d, s2, p2, l2, c2, q2, k2, d2, rfl, -, -, gg⟩; exact ⟨s, p, l, c, q, k, d, s2, p2, l2, c2, q2, k2, d2, rfl, trivial, trivial, gg⟩)) rempty7K_
theorem max_both7 (a b c d : Nat) (ha : a < 18446744073709551616) (hb : b < 18446744073709551616) (hc : c < 18446744073709551616) (hd : d < 18446744073709551616) : ∃ LO HI : Nat, (∀ w : World, Calls Try.prog 10 #[.agg #[.float .f64 a, .float .f64 b], .agg #[.float .f64 c, .float .f64 d]] w fun e w' => e = .returned (.agg #[.float .f64 LO, .float .f64 HI]) ∧ Kp w w') ∧ (∀ w : World, Calls Try.prog 11 #[.agg #[.int .u64 ((a : Nat) : Int), .int .u64 ((b : Nat) : Int)], .agg #[.int .u64 ((c : Nat) : Int), .int .u64 ((d : Nat) : Int)]] w fun e w' => e = .returned (.agg #[.int .u64 ((LO : Nat) : Int), .int .u64 ((HI : Nat) : Int)]) ∧ Kp w w') := by
  have hp := Fq.read_ a b ha hb
  have hp2 := Fq.read_ c d hc hd
  by_cases s1 : Fq.snd a b = true
  · obtain ⟨n, m, L1, e1⟩ := rlo_w a b ha hb
    obtain ⟨g, r, L2, e2⟩ := rhi_w a b ha hb
    have i1 := rlo_inf a b s1 n m e1
    have i2 := rhi_inf a b s1 g r e2
    have Q1 : Fq.wD n m ≠ 9223372036854775808 := e1 ▸ rlo_ne a b
    have Q2 : Fq.wD g r ≠ 9223372036854775808 := e2 ▸ rhi_ne a b
    have hv := voidP8_ a b ha hb false (by simpa using s1)
    have hO1' := of7_ a b ha hb s1 n g m r L1 L2 e1 e2
    rw [e1, e2] at hp hv
    by_cases s2 : Fq.snd c d = true
    · obtain ⟨n', m', L3, e3⟩ := rlo_w c d hc hd
      obtain ⟨g', r', L4, e4⟩ := rhi_w c d hc hd
      have i3 := rlo_inf c d s2 n' m' e3
      have i4 := rhi_inf c d s2 g' r' e4
      have Q3 : Fq.wD n' m' ≠ 9223372036854775808 := e3 ▸ rlo_ne c d
      have Q4 : Fq.wD g' r' ≠ 9223372036854775808 := e4 ▸ rhi_ne c d
      have hv2 := voidP8_ c d hc hd false (by simpa using s2)
      have hO2 := of7_ c d hc hd s2 n' g' m' r' L3 L4 e3 e4
      rw [e3, e4] at hp2 hv2
      have hO1 : ∀ W : World, Calls Try.prog 19 #[.agg #[.int .u64 ((a : Nat) : Int), .int .u64 ((b : Nat) : Int)]] W fun e w' => ∃ (s : Bool) (p : Option Addr) (l c : Nat) (q : Option Addr) (k d : Nat) (s2 : Bool) (p2 : Option Addr) (l2 c2 : Nat) (q2 : Option Addr) (k2 d2 : Nat), e = .returned (.agg #[.bool false, .int .i64 (infS n m), .bool s, .slice p l c, .slice q k d, .int .i64 (infS g r), .bool s2, .slice p2 l2 c2, .slice q2 k2 d2]) ∧ RP 0 w' s p l c q k d (fN n m) (fM m) ∧ RP 0 w' s2 p2 l2 c2 q2 k2 d2 (fN g r) (fM r) ∧ Kp W w' := fun W => (hO1' W).mono (by
        rintro e w' ⟨s, p, l, c, q, k, d, s2, p2, l2, c2, q2, k2, d2, rfl, u1, u2, gg⟩
        exact ⟨s, p, l, c, q, k, d, s2, p2, l2, c2, q2, k2, d2, rfl, u1.mono (Nat.zero_le _), u2.mono (Nat.zero_le _), gg⟩)
      have hc1 := fun (W : World) (s : Bool) (p : Option Addr) (l c : Nat) (q : Option Addr) (k d : Nat) (s5 : Bool) (p5 : Option Addr) (l5 c5 : Nat) (q5 : Option Addr) (k5 d5 : Nat) (u1 : RP 0 W s p l c q k d (fN n m) (fM m)) (u2 : RP 0 W s5 p5 l5 c5 q5 k5 d5 (fN n' m') (fM m')) => cmpE_ 0 0 n' n m' m L3 L1 s5 p5 l5 c5 q5 k5 d5 s p l c q k d W u2 u1
      have hc2 := fun (W : World) (s2 : Bool) (p2 : Option Addr) (l2 c2 : Nat) (q2 : Option Addr) (k2 d2 : Nat) (s6 : Bool) (p6 : Option Addr) (l6 c6 : Nat) (q6 : Option Addr) (k6 d6 : Nat) (u1 : RP 0 W s2 p2 l2 c2 q2 k2 d2 (fN g r) (fM r)) (u2 : RP 0 W s6 p6 l6 c6 q6 k6 d6 (fN g' r') (fM r')) => cmpE_ 0 0 g' g r' r L4 L2 s6 p6 l6 c6 q6 k6 d6 s2 p2 l2 c2 q2 k2 d2 W u2 u1
      refine ⟨(if Fq.plz n' m' > Fq.plz n m then Fq.wD n' m' else Fq.wD n m), (if Fq.plz g' r' > Fq.plz g r then Fq.wD g' r' else Fq.wD g r), fun w => maxn_ a b c d _ _ _ _ _ _ hp hp2 hv hv2 (max7_ n n' m m' L1 L3 Q1 Q3) (max7_ g g' r r' L2 L4 Q2 Q4) w, fun w => ?_⟩
      by_cases c1 : Fq.plz n' m' > Fq.plz n m
      · rw [if_pos c1]
        by_cases c2 : Fq.plz g' r' > Fq.plz g r
        · rw [if_pos c2]
          exact rmaxTT_ _ _ _ _ _ _ _ _ _ _ _ _ _ _ _ _ _ _ _ _ hO1 hO2 hc1 hc2 (fun W s5 p5 l5 c5 q5 k5 d5 s6 p6 l6 c6 q6 k6 d6 u1 u2 => by
            have h := leastV_ n' g' m' r' L3 L4 i3 i4 W _ ⟨s5, p5, l5, c5, q5, k5, d5, s6, p6, l6, c6, q6, k6, d6, rfl, u1, u2⟩
            rw [pla7 _ _ Q3, pla7 _ _ Q4] at h
            exact h) (by rw [cmI_gt _ _ (by omega)]; decide) (by rw [cmI_gt _ _ (by omega)]; decide) w
        · rw [if_neg c2]
          exact rmaxTS_ _ _ _ _ _ _ _ _ _ _ _ _ _ _ _ _ _ _ _ _ hO1 hO2 hc1 hc2 (fun W s5 p5 l5 c5 q5 k5 d5 s2 p2 l2 c2 q2 k2 d2 u1 u2 => by
            have h := leastV_ n' g m' r L3 L2 i3 i2 W _ ⟨s5, p5, l5, c5, q5, k5, d5, s2, p2, l2, c2, q2, k2, d2, rfl, u1, u2⟩
            rw [pla7 _ _ Q3, pla7 _ _ Q2] at h
            exact h) (by rw [cmI_gt _ _ (by omega)]; decide) (cmI_ngt _ _ (by omega)) w
      · rw [if_neg c1]
        by_cases c2 : Fq.plz g' r' > Fq.plz g r
        · rw [if_pos c2]
          exact rmaxST_ _ _ _ _ _ _ _ _ _ _ _ _ _ _ _ _ _ _ _ _ hO1 hO2 hc1 hc2 (fun W s p l c q k d s6 p6 l6 c6 q6 k6 d6 u1 u2 => by
            have h := leastV_ n g' m r' L1 L4 i1 i4 W _ ⟨s, p, l, c, q, k, d, s6, p6, l6, c6, q6, k6, d6, rfl, u1, u2⟩
            rw [pla7 _ _ Q1, pla7 _ _ Q4] at h
            exact h) (cmI_ngt _ _ (by omega)) (by rw [cmI_gt _ _ (by omega)]; decide) w
        · rw [if_neg c2]
          exact rmaxSS_ _ _ _ _ _ _ _ _ _ _ _ _ _ _ _ _ _ _ _ _ hO1 hO2 hc1 hc2 (fun W s p l c q k d s2 p2 l2 c2 q2 k2 d2 u1 u2 => by
            have h := leastV_ n g m r L1 L2 i1 i2 W _ ⟨s, p, l, c, q, k, d, s2, p2, l2, c2, q2, k2, d2, rfl, u1, u2⟩
            rw [pla7 _ _ Q1, pla7 _ _ Q2] at h
            exact h) (cmI_ngt _ _ (by omega)) (cmI_ngt _ _ (by omega)) w
    · have s2 : Fq.snd c d = false := by simpa using s2
      have hv2 := voidP8_ c d hc hd true (by simpa using s2)
      refine ⟨9218868437227405312, 18442240474082181120, fun w => maxv2_ a b c d _ _ _ _ hp hp2 hv hv2 empty7K_ w, fun w => ?_⟩
      exact rmaxE2_ _ _ _ _ _ _ _ _ w (fun W _ => (hO1' W).mono (by rintro e w' ⟨s, p, l, c, q, k, d, s2, p2, l2, c2, q2, k2, d2, rfl, -, -, gg⟩; exact ⟨s, p, l, c, q, k, d, s2, p2, l2, c2, q2, k2, d2, rfl, trivial, trivial, gg⟩)) (fun W _ => (ofE7_ c d hc hd s2 W).mono (by rintro e w' ⟨s, p, l, c, q, k, d, s2, p2, l2, c2, q2, k2, d2, rfl, -, -, gg⟩; exact ⟨s, p, l, c, q, k, d, s2, p2, l2, c2, q2, k2, d2, rfl, trivial, trivial, gg⟩)) rempty7K_
  · have s1 : Fq.snd a b = false := by simpa using s1
    have hv := voidP8_ a b ha hb true (by simpa using s1)
    refine ⟨9218868437227405312, 18442240474082181120, fun w => maxv1_ a b c d _ _ _ _ hp hp2 hv empty7K_ w, fun w => ?_⟩
    have hO1 : ∀ W : World, Calls Try.prog 19 #[.agg #[.int .u64 ((a : Nat) : Int), .int .u64 ((b : Nat) : Int)]] W fun e w' => ∃ (s : Bool) (p : Option Addr) (l c : Nat) (q : Option Addr) (k d : Nat) (s2 : Bool) (p2 : Option Addr) (l2 c2 : Nat) (q2 : Option Addr) (k2 d2 : Nat), e = .returned (.agg #[.bool true, .int .i64 0, .bool s, .slice p l c, .slice q k d, .int .i64 0, .bool s2, .slice p2 l2 c2, .slice q2 k2 d2]) ∧ True ∧ True ∧ Kp W w' := fun W => (ofE7_ a b ha hb s1 W).mono (by rintro e w' ⟨s, p, l, c, q, k, d, s2, p2, l2, c2, q2, k2, d2, rfl, -, -, gg⟩; exact ⟨s, p, l, c, q, k, d, s2, p2, l2, c2, q2, k2, d2, rfl, trivial, trivial, gg⟩)
    by_cases s2 : Fq.snd c d = true
    · obtain ⟨n', m', L3, e3⟩ := rlo_w c d hc hd
      obtain ⟨g', r', L4, e4⟩ := rhi_w c d hc hd
      exact rmaxE1_ _ _ _ _ _ _ _ _ false w (fun W _ => hO1 W) (fun W _ => (of7_ c d hc hd s2 n' g' m' r' L3 L4 e3 e4 W).mono (by rintro e w' ⟨s, p, l, c, q, k, d, s2, p2, l2, c2, q2, k2, d2, rfl, -, -, gg⟩; exact ⟨s, p, l, c, q, k, d, s2, p2, l2, c2, q2, k2, d2, rfl, trivial, trivial, gg⟩)) rempty7K_
    · have s2 : Fq.snd c d = false := by simpa using s2
      exact rmaxE1_ _ _ _ _ _ _ _ _ true w (fun W _ => hO1 W) (fun W _ => (ofE7_ c d hc hd s2 W).mono (by rintro e w' ⟨s, p, l, c, q, k, d, s2, p2, l2, c2, q2, k2, d2, rfl, -, -, gg⟩; exact ⟨s, p, l, c, q, k, d, s2, p2, l2, c2, q2, k2, d2, rfl, trivial, trivial, gg⟩)) rempty7K_

set_option linter.unusedVariables false
/-- the sign of what lies opposite, never -0 -/
def ng7 (n : Bool) (m : Nat) : Bool := if m = 0 then false else !n
theorem op7 (n : Bool) (m : Nat) (hm : m ≤ 9218868437227405312) : opP (Fq.wD n m) = Fq.wD (ng7 n m) m := by
  rw [opP_w n m (by omega)]
  unfold mnP ng7 Fq.pla Fq.wD
  by_cases c : m = 0
  · rw [c]; cases n <;> simp
  · rw [if_neg c]; cases n <;> simp <;> omega
theorem plz_ng7 (n : Bool) (m : Nat) : Fq.plz (ng7 n m) m = -(Fq.plz n m) := by
  unfold ng7 Fq.plz
  by_cases c : m = 0
  · rw [c]; cases n <;> simp
  · rw [if_neg c]; cases n <;> simp
theorem ng7_ne (n : Bool) (m : Nat) (hm : m ≤ 9218868437227405312) : Fq.wD (ng7 n m) m ≠ 9223372036854775808 := by
  unfold ng7 Fq.wD
  by_cases c : m = 0
  · rw [c]; simp
  · rw [if_neg c]; cases n <;> simp <;> omega
theorem abs_both7 (a b : Nat) (ha : a < 18446744073709551616) (hb : b < 18446744073709551616) : ∃ LO HI : Nat, (∀ w : World, Calls Try.prog 5 #[.agg #[.float .f64 a, .float .f64 b]] w fun e w' => e = .returned (.agg #[.float .f64 LO, .float .f64 HI]) ∧ Kp w w') ∧ (∀ w : World, Calls Try.prog 7 #[.agg #[.int .u64 ((a : Nat) : Int), .int .u64 ((b : Nat) : Int)]] w fun e w' => e = .returned (.agg #[.int .u64 ((LO : Nat) : Int), .int .u64 ((HI : Nat) : Int)]) ∧ Kp w w') := by
  have hp := Fq.read_ a b ha hb
  by_cases s1 : Fq.snd a b = true
  · obtain ⟨n, m, L1, e1⟩ := rlo_w a b ha hb
    obtain ⟨g, r, L2, e2⟩ := rhi_w a b ha hb
    have i1 := rlo_inf a b s1 n m e1
    have i2 := rhi_inf a b s1 g r e2
    have Q1 : Fq.wD n m ≠ 9223372036854775808 := e1 ▸ rlo_ne a b
    have Q2 : Fq.wD g r ≠ 9223372036854775808 := e2 ▸ rhi_ne a b
    have z1 : n = true → m ≠ 0 := fun h z => Q1 (by rw [h, z]; rfl)
    have z2 : g = true → r ≠ 0 := fun h z => Q2 (by rw [h, z]; rfl)
    have hv := voidP8_ a b ha hb false (by simpa using s1)
    have P1 : Fq.plz n m = if n then -(m : Int) else m := by unfold Fq.plz; cases n <;> rfl
    have P2 : Fq.plz g r = if g then -(r : Int) else r := by unfold Fq.plz; cases g <;> rfl
    have hle : Fq.plz n m ≤ Fq.plz g r := by
      have q := snd_read8 a b ha hb s1
      rw [e1, e2, Fq.snd_w n g m r (by omega) (by omega)] at q
      exact (of_decide_eq_true q).2.2.1
    have hn := neg6_ (Fq.rlo a b) (Fq.rhi a b) (Fq.rlo_lt a b ha) (Fq.rhi_lt a b hb)
    rw [rlo_read8 a b ha hb s1, rhi_read8 a b ha hb s1] at hn
    rw [e1, e2] at hp hv hn
    rw [op7 n m L1, op7 g r L2] at hn
    have p1 := plz_ng7 n m
    have p2 := plz_ng7 g r
    have hlo : (if 0 < Fq.plz n m then m else if Fq.plz g r < 0 then r else 0) ≠ 9218868437227405312 := by
      by_cases y1 : 0 < Fq.plz n m
      · rw [if_pos y1]; intro h; rw [P1, i1 h] at y1; simp at y1; omega
      · rw [if_neg y1]
        by_cases y2 : Fq.plz g r < 0
        · rw [if_pos y2]; intro h; rw [P2, i2 h] at y2; simp at y2; omega
        · rw [if_neg y2]; decide
    have hm2 := max7_ g (ng7 n m) r m L2 L1 Q2 (ng7_ne n m L1)
    have em2 : (if Fq.plz (ng7 n m) m > Fq.plz g r then Fq.wD (ng7 n m) m else Fq.wD g r) = (max m r) := by
      rw [p1]
      have w1 : Fq.wD (ng7 n m) m = if ng7 n m then m + 9223372036854775808 else m := by unfold Fq.wD; cases ng7 n m <;> simp <;> omega
      have w2 : Fq.wD g r = if g then r + 9223372036854775808 else r := by unfold Fq.wD; cases g <;> simp <;> omega
      rw [P1, P2] at hle ⊢
      rw [w1, w2]
      unfold ng7
      by_cases c0 : m = 0
      · rw [if_pos c0, c0]
        cases n <;> cases g <;> simp [c0] at hle z1 z2 ⊢ <;> omega
      · rw [if_neg c0]
        cases n <;> cases g <;> simp at hle z1 z2 ⊢ <;> split <;> omega
    rw [em2] at hm2
    have ho := Fq.ordD n (ng7 g r) m r L1 L2
    rw [p2] at ho
    refine ⟨(if 0 < Fq.plz n m then m else if Fq.plz g r < 0 then r else 0), (max m r), fun w => absS_ a b _ _ hp hv _ _ _ _ hn ?_ hm2 w, fun w => ?_⟩
    · obtain ⟨R, hR⟩ : ∃ R, R = if -(Fq.plz g r) > Fq.plz n m then Fq.wD (ng7 g r) r else Fq.wD n m := ⟨_, rfl⟩
      refine max3A_ _ _ R _ ?_ ?_
      · rcases Int.lt_trichotomy (Fq.plz n m) (-(Fq.plz g r)) with y | y | y
        · rw [Fq.cmp_lt y] at ho
          exact Or.inl ⟨ho, by rw [hR, if_pos (by omega)]⟩
        · have e : Fq.wD n m = Fq.wD (ng7 g r) r := by
            have z3 : ng7 g r = true → r ≠ 0 := fun h z => ng7_ne g r L2 (by rw [h, z]; rfl)
            have y' : Fq.plz n m = Fq.plz (ng7 g r) r := by rw [p2]; exact y
            generalize ng7 g r = gg at z3 y' ⊢
            unfold Fq.wD
            unfold Fq.plz at y'
            cases n <;> cases gg <;> simp at z1 z3 y' ⊢ <;> omega
          rw [Fq.cmp_eq y] at ho
          exact Or.inr (Or.inr ⟨e, by rw [hR, if_neg (by omega)], by rw [← e] at ho; exact ho⟩)
        · rw [Fq.cmp_gt y] at ho
          exact Or.inr (Or.inl ⟨ho, by rw [hR, if_neg (by omega)]⟩)
      · by_cases y1 : 0 < Fq.plz n m
        · have hRR : R = Fq.wD n m := by rw [hR, if_neg (by omega)]
          have h2 := Fq.ordD n false m 0 L1 (by decide)
          rw [show Fq.wD false 0 = 0 from rfl, show Fq.plz false 0 = 0 from rfl, Fq.cmp_gt y1] at h2
          rw [if_pos y1, hRR]
          refine Or.inr (Or.inl ⟨h2, ?_⟩)
          rw [P1] at y1
          unfold Fq.wD
          cases n <;> simp at y1 ⊢ <;> omega
        · rw [if_neg y1]
          by_cases y2 : Fq.plz g r < 0
          · have hRR : R = Fq.wD (ng7 g r) r := by rw [hR, if_pos (by omega)]
            have h2 := Fq.ordD (ng7 g r) false r 0 L2 (by decide)
            rw [show Fq.wD false 0 = 0 from rfl, show Fq.plz false 0 = 0 from rfl, p2, Fq.cmp_gt (show (0 : Int) < -(Fq.plz g r) by omega)] at h2
            rw [if_pos y2, hRR]
            refine Or.inr (Or.inl ⟨h2, ?_⟩)
            rw [P2] at y2
            unfold ng7 Fq.wD
            cases g
            · simp at y2; omega
            · simp at z2 ⊢ <;> omega
          · rw [if_neg y2]
            have hx : ∃ x y, y ≤ 9218868437227405312 ∧ R = Fq.wD x y ∧ Fq.plz x y ≤ 0 ∧ Fq.wD x y ≠ 9223372036854775808 := by
              by_cases y3 : -(Fq.plz g r) > Fq.plz n m
              · exact ⟨ng7 g r, r, L2, by rw [hR, if_pos y3], by omega, ng7_ne g r L2⟩
              · exact ⟨n, m, L1, by rw [hR, if_neg y3], by omega, Q1⟩
            obtain ⟨x, y, hy, hRR, hx0, hne⟩ := hx
            have h2 := Fq.ordD x false y 0 hy (by decide)
            rw [show Fq.wD false 0 = 0 from rfl, show Fq.plz false 0 = 0 from rfl] at h2
            by_cases y4 : Fq.plz x y = 0
            · have hR0 : R = 0 := by
                rw [hRR]
                have P9 : Fq.plz x y = if x then -(y : Int) else y := by unfold Fq.plz; cases x <;> rfl
                rw [P9] at y4
                have y0 : y = 0 := by cases x <;> simp at y4 <;> omega
                rw [y0] at hne ⊢
                cases x
                · rfl
                · exact absurd rfl hne
              exact Or.inr (Or.inr ⟨hR0, rfl, by decide +kernel⟩)
            · rw [Fq.cmp_lt (by omega)] at h2
              exact Or.inl ⟨by rw [hRR]; exact h2, rfl⟩
    · have h := rabs7c_ _ _ _ _ (SV1 n m g r) (SV1 false (if 0 < Fq.plz n m then m else if Fq.plz g r < 0 then r else 0) false (max m r)) w (fun W _ => ofSound_ a b ha hb s1 n g m r L1 L2 e1 e2 W) (fun W v _ h => (sizeV_ n g m r L1 L2 z1 z2 hle W v h).mono (fun e w' q => by obtain ⟨⟨v', h1, h2⟩, h3⟩ := q; exact ⟨v', h1, h2, h3⟩)) (fun W v _ h => leastV_ false false (if 0 < Fq.plz n m then m else if Fq.plz g r < 0 then r else 0) (max m r) (by split <;> first | omega | (split <;> omega)) (by omega) (fun h => absurd h hlo) (fun _ => rfl) W v h)
      rw [show Fq.pla (Fq.wD false (if 0 < Fq.plz n m then m else if Fq.plz g r < 0 then r else 0)) = (if 0 < Fq.plz n m then m else if Fq.plz g r < 0 then r else 0) from by
        unfold Fq.pla
        rw [if_neg (by show ((if 0 < Fq.plz n m then m else if Fq.plz g r < 0 then r else 0) : Nat) ≠ 9223372036854775808; split <;> first | omega | (split <;> omega))]; rfl, show Fq.pla (Fq.wD false (max m r)) = (max m r) from by
        unfold Fq.pla
        rw [if_neg (by show (max m r : Nat) ≠ 9223372036854775808; omega)]; rfl] at h
      exact h
  · have s1 : Fq.snd a b = false := by simpa using s1
    have hv := voidP8_ a b ha hb true (by simpa using s1)
    refine ⟨_, _, fun w => absV_ a b _ _ hp hv w, fun w => ?_⟩
    rw [show Fq.rhi a b = 18442240474082181120 from by rw [Fq.rhi, if_neg (by rw [s1]; decide)], show Fq.rlo a b = 9218868437227405312 from by rw [Fq.rlo, if_neg (by rw [s1]; decide)]]
    exact rabs7c_ _ _ _ _ (fun _ v => SV0 true v) (fun _ v => SV0 true v) w (fun W _ => ofEmpty_ a b ha hb s1 W) (fun W v _ h => sizeX_ W v h) (fun W v _ h => leastN_ W v h)
set_option linter.unusedVariables false
set_option maxRecDepth 20000 in
set_option maxHeartbeats 1000000 in
theorem in9_ (a b : Nat) (w : World) : Calls Try.prog 6 #[.agg #[.int .u64 ((a : Nat) : Int), .int .u64 ((b : Nat) : Int)]] w fun e w' => e = .returned (.agg #[.float .f64 a, .float .f64 b]) ∧ Kp w w' := by
  have h1 := Fq.ff64 a
  have h2 := Fq.ff64 b
  generalize (a : Int) = X at h1 ⊢
  generalize (b : Int) = Y at h2 ⊢
  go_enter Try.func6, Try.ntmps6
  go_wp2
  go_region_held3 (fun w' => w'.cell? ⟨w.heap.size, 0, none⟩ = some (.int .u64 X) ∧ w'.cell? ⟨w.heap.size, 1, none⟩ = some (.int .u64 Y)) (simp [go_sem]) (fail)
  go_wp2
  exact bodyPost_ret (v := .agg #[.float .f64 a, .float .f64 b]) (by simp [results, Try.results6, go_sem]) rfl ⟨rfl, (by repeat (with_reducible (first | assumption | exact Kp.refl _ | apply Kp.drew | apply Kp.alloc | apply Kp.drewN | (refine Kp.setCell ?_ (by first | omega | (simp <;> omega)) _) | (refine Kp.trans ?_ (by assumption)))))⟩
set_option maxRecDepth 20000 in
set_option maxHeartbeats 1000000 in
theorem out9_ (a b : Nat) (w : World) : Calls Try.prog 4 #[.agg #[.float .f64 a, .float .f64 b]] w fun e w' => e = .returned (.agg #[.int .u64 ((a : Nat) : Int), .int .u64 ((b : Nat) : Int)]) ∧ Kp w w' := by
  have h1 := Fq.fb64 a
  have h2 := Fq.fb64 b
  generalize (a : Int) = X at h1 ⊢
  generalize (b : Int) = Y at h2 ⊢
  go_enter Try.func4, Try.ntmps4
  go_wp2
  go_region_held3 (fun w' => w'.cell? ⟨w.heap.size, 0, none⟩ = some (.float .f64 a) ∧ w'.cell? ⟨w.heap.size, 1, none⟩ = some (.float .f64 b)) (simp [go_sem, World.cell?_alloc_past]) (fail)
  go_wp2
  exact bodyPost_ret (v := .agg #[.int .u64 X, .int .u64 Y]) (by simp [results, Try.results4, go_sem]) rfl ⟨rfl, (by repeat (with_reducible (first | assumption | exact Kp.refl _ | apply Kp.drew | apply Kp.alloc | apply Kp.drewN | (refine Kp.setCell ?_ (by first | omega | (simp <;> omega)) _) | (refine Kp.trans ?_ (by assumption)))))⟩
set_option maxRecDepth 20000 in
set_option maxHeartbeats 4000000 in
theorem pmagsA_ (X1 X2 Y1 Y2 Z1 Z2 U1 U2 V1 V2 : Int) (A1 A2 B1 B2 P1 P2 Q1 Q2 R1 R2 : Nat) (hin1 : ∀ w : World, Calls Try.prog 6 #[.agg #[.int .u64 X1, .int .u64 X2]] w fun e w' => e = .returned (.agg #[.float .f64 A1, .float .f64 A2]) ∧ Kp w w') (hin2 : ∀ w : World, Calls Try.prog 6 #[.agg #[.int .u64 Y1, .int .u64 Y2]] w fun e w' => e = .returned (.agg #[.float .f64 B1, .float .f64 B2]) ∧ Kp w w') (hp0 : ∀ w : World, Calls Try.prog 5 #[.agg #[.float .f64 A1, .float .f64 A2]] w fun e w' => e = .returned (.agg #[.float .f64 P1, .float .f64 P2]) ∧ Kp w w') (ho0 : ∀ w : World, Calls Try.prog 4 #[.agg #[.float .f64 P1, .float .f64 P2]] w fun e w' => e = .returned (.agg #[.int .u64 Z1, .int .u64 Z2]) ∧ Kp w w') (hr0 : ∀ w : World, Calls Try.prog 7 #[.agg #[.int .u64 X1, .int .u64 X2]] w fun e w' => e = .returned (.agg #[.int .u64 Z1, .int .u64 Z2]) ∧ Kp w w') (hp1 : ∀ w : World, Calls Try.prog 8 #[.agg #[.float .f64 A1, .float .f64 A2], .agg #[.float .f64 B1, .float .f64 B2]] w fun e w' => e = .returned (.agg #[.float .f64 Q1, .float .f64 Q2]) ∧ Kp w w') (ho1 : ∀ w : World, Calls Try.prog 4 #[.agg #[.float .f64 Q1, .float .f64 Q2]] w fun e w' => e = .returned (.agg #[.int .u64 U1, .int .u64 U2]) ∧ Kp w w') (hr1 : ∀ w : World, Calls Try.prog 9 #[.agg #[.int .u64 X1, .int .u64 X2], .agg #[.int .u64 Y1, .int .u64 Y2]] w fun e w' => e = .returned (.agg #[.int .u64 U1, .int .u64 U2]) ∧ Kp w w') (hp2 : ∀ w : World, Calls Try.prog 10 #[.agg #[.float .f64 A1, .float .f64 A2], .agg #[.float .f64 B1, .float .f64 B2]] w fun e w' => e = .returned (.agg #[.float .f64 R1, .float .f64 R2]) ∧ Kp w w') (ho2 : ∀ w : World, Calls Try.prog 4 #[.agg #[.float .f64 R1, .float .f64 R2]] w fun e w' => e = .returned (.agg #[.int .u64 V1, .int .u64 V2]) ∧ Kp w w') (hr2 : ∀ w : World, Calls Try.prog 11 #[.agg #[.int .u64 X1, .int .u64 X2], .agg #[.int .u64 Y1, .int .u64 Y2]] w fun e w' => e = .returned (.agg #[.int .u64 V1, .int .u64 V2]) ∧ Kp w w') (w : World) : Calls Try.prog 3 #[.agg #[.int .u64 X1, .int .u64 X2], .agg #[.int .u64 Y1, .int .u64 Y2]] w fun e w' => e = .returned (.bool true) ∧ Kp w w' := by
  go_enter Try.func3, Try.ntmps3
  go_wp2
  refine Fq.wp_region_grow (by kernel_rfl) (by kernel_rfl) (fun ι _ G hG hall => ?_)
  have cc0 : ∀ n, (G n).cell? ⟨w.heap.size, 0, none⟩ = some (.int .u64 X1) := fun n => Fq.gkeep (hG n) (by simp [go_sem])
  have cc1 : ∀ n, (G n).cell? ⟨w.heap.size, 1, none⟩ = some (.int .u64 X2) := fun n => Fq.gkeep (hG n) (by simp [go_sem])
  have cc2 : ∀ n, (G n).cell? ⟨w.heap.size + 1, 0, none⟩ = some (.int .u64 Y1) := fun n => Fq.gkeep (hG n) (by simp [go_sem])
  have cc3 : ∀ n, (G n).cell? ⟨w.heap.size + 1, 1, none⟩ = some (.int .u64 Y2) := fun n => Fq.gkeep (hG n) (by simp [go_sem])
  repeat (go_big_quiet_step (first | (go_at_call_of 6 (Value.agg #[.int .u64 X1, .int .u64 X2]); exact (hin1 _).mono (fun e w' h => ⟨h.1, hall _ (Fq.gtrans (hG _) h.2)⟩)) | (go_at_call_of 6 (Value.agg #[.int .u64 Y1, .int .u64 Y2]); exact (hin2 _).mono (fun e w' h => ⟨h.1, hall _ (Fq.gtrans (hG _) h.2)⟩)) | (go_at_call 5; exact (hp0 _).mono (fun e w' h => ⟨h.1, hall _ (Fq.gtrans (hG _) h.2)⟩)) | (go_at_call 8; exact (hp1 _).mono (fun e w' h => ⟨h.1, hall _ (Fq.gtrans (hG _) h.2)⟩)) | (go_at_call 10; exact (hp2 _).mono (fun e w' h => ⟨h.1, hall _ (Fq.gtrans (hG _) h.2)⟩)) | (go_at_call_of 4 (Value.float .f64 P1); exact (ho0 _).mono (fun e w' h => ⟨h.1, hall _ (Fq.gtrans (hG _) h.2)⟩)) | (go_at_call_of 4 (Value.float .f64 Q1); exact (ho1 _).mono (fun e w' h => ⟨h.1, hall _ (Fq.gtrans (hG _) h.2)⟩)) | (go_at_call_of 4 (Value.float .f64 R1); exact (ho2 _).mono (fun e w' h => ⟨h.1, hall _ (Fq.gtrans (hG _) h.2)⟩)) | (go_at_call 7; exact (hr0 _).mono (fun e w' h => ⟨h.1, hall _ (Fq.gtrans (hG _) h.2)⟩)) | (go_at_call 9; exact (hr1 _).mono (fun e w' h => ⟨h.1, hall _ (Fq.gtrans (hG _) h.2)⟩)) | (go_at_call 11; exact (hr2 _).mono (fun e w' h => ⟨h.1, hall _ (Fq.gtrans (hG _) h.2)⟩))))
  refine wpQuiet_nil ?_
  rintro _ ⟨nq, rfl⟩
  have gq : Kp _ (G nq) := hG nq
  clear cc0 cc1 cc2 cc3 hall hG
  have gq2 := Kp.trans (((Kp.refl w).alloc _).alloc _) gq
  go_wp2
  exact bodyPost_ret (v := .bool true) (by simp [results, Try.results3, go_sem]) rfl ⟨rfl, gq2⟩
theorem pmags_ (a b c d : Nat) (ha : a < 18446744073709551616) (hb : b < 18446744073709551616) (hc : c < 18446744073709551616) (hd : d < 18446744073709551616) (w : World) : Calls Try.prog 3 #[.agg #[.int .u64 ((a : Nat) : Int), .int .u64 ((b : Nat) : Int)], .agg #[.int .u64 ((c : Nat) : Int), .int .u64 ((d : Nat) : Int)]] w fun e w' => e = .returned (.bool true) ∧ Kp w w' := by
  obtain ⟨P1, P2, p1, p2⟩ := abs_both7 a b ha hb
  obtain ⟨Q1, Q2, q1, q2⟩ := min_both7 a b c d ha hb hc hd
  obtain ⟨R1, R2, r1, r2⟩ := max_both7 a b c d ha hb hc hd
  exact pmagsA_ _ _ _ _ _ _ _ _ _ _ a b c d P1 P2 Q1 Q2 R1 R2 (in9_ a b) (in9_ c d) p1 (out9_ P1 P2) p2 q1 (out9_ Q1 Q2) q2 r1 (out9_ R1 R2) r2 w
end Go.Proofs.Ytflhcnmbondpnaa
