import Derived.Test.YtbbmoaiilnfmgaaKIMn
import Derived.Test.YtbbmoaiilnfmgaaKWPc
import Derived.Test.YtbbmoaiilnfmgaaKWSa
namespace Go.Proofs.Ytbbmoaiilnfmgaa
open Go.RowKit
set_option maxRecDepth 20000 in
set_option maxHeartbeats 1000000 in
theorem rsubA_ (P : World → World → Value → Prop) (Q : World → World → Value → Prop) (s : Bool) (p : Option Addr) (l c : Nat) (q : Option Addr) (k d : Nat) (s2 : Bool) (p2 : Option Addr) (l2 c2 : Nat) (q2 : Option Addr) (k2 d2 : Nat) (w : World) (hN : ∀ W : World, Kp w W → Calls Try.prog 48 #[.agg #[.bool s2, .slice p2 l2 c2, .slice q2 k2 d2]] W fun e w' => ∃ (s5 : Bool) (p5 : Option Addr) (l5 c5 : Nat) (q5 : Option Addr) (k5 d5 : Nat), e = .returned (.agg #[.bool s5, .slice p5 l5 c5, .slice q5 k5 d5]) ∧ P w w' (.agg #[.bool s5, .slice p5 l5 c5, .slice q5 k5 d5]) ∧ Kp W w') (hA : ∀ (W : World) (s5 : Bool) (p5 : Option Addr) (l5 c5 : Nat) (q5 : Option Addr) (k5 d5 : Nat), Kp w W → P w W (.agg #[.bool s5, .slice p5 l5 c5, .slice q5 k5 d5]) → Calls Try.prog 54 #[.agg #[.bool s, .slice p l c, .slice q k d], .agg #[.bool s5, .slice p5 l5 c5, .slice q5 k5 d5]] W fun e w' => ∃ (s3 : Bool) (p3 : Option Addr) (l3 c3 : Nat) (q3 : Option Addr) (k3 d3 : Nat), e = .returned (.agg #[.bool s3, .slice p3 l3 c3, .slice q3 k3 d3]) ∧ Q W w' (.agg #[.bool s3, .slice p3 l3 c3, .slice q3 k3 d3]) ∧ Kp W w') : Calls Try.prog 50 #[.agg #[.bool s, .slice p l c, .slice q k d], .agg #[.bool s2, .slice p2 l2 c2, .slice q2 k2 d2]] w fun e w' => ∃ (W wh : World) (s3 : Bool) (p3 : Option Addr) (l3 c3 : Nat) (q3 : Option Addr) (k3 d3 : Nat), e = .returned (.agg #[.bool s3, .slice p3 l3 c3, .slice q3 k3 d3]) ∧ Q W wh (.agg #[.bool s3, .slice p3 l3 c3, .slice q3 k3 d3]) ∧ w' = (((wh).setCell ⟨w.heap.size + 2, 0, none⟩ (.bool s3)).setCell ⟨w.heap.size + 2, 1, none⟩ (.slice p3 l3 c3)).setCell ⟨w.heap.size + 2, 2, none⟩ (.slice q3 k3 d3) ∧ w.heap.size + 2 < W.heap.size ∧ Kp w wh := by
  go_enter Try.func50, Try.ntmps50
  go_wp2
  generalize hW : (((w.alloc (.cells #[.bool s, .slice p l c, .slice q k d] 38)).alloc (.cells #[.bool s2, .slice p2 l2 c2, .slice q2 k2 d2] 38)).alloc (.cells #[.bool false, .slice none 0 0, .slice none 0 0] 38)) = W
  have kw : Kp w W := by rw [← hW]; exact (((Kp.refl w).alloc _).alloc _).alloc _
  have xw0 : W.cell? ⟨w.heap.size, 0, none⟩ = some (.bool s) := by rw [← hW]; simp [go_sem]
  have dw0 : W.drew.cell? ⟨w.heap.size, 0, none⟩ = some (.bool s) := xw0
  have xw1 : W.cell? ⟨w.heap.size, 1, none⟩ = some (.slice p l c) := by rw [← hW]; simp [go_sem]
  have dw1 : W.drew.cell? ⟨w.heap.size, 1, none⟩ = some (.slice p l c) := xw1
  have xw2 : W.cell? ⟨w.heap.size, 2, none⟩ = some (.slice q k d) := by rw [← hW]; simp [go_sem]
  have dw2 : W.drew.cell? ⟨w.heap.size, 2, none⟩ = some (.slice q k d) := xw2
  have xw3 : W.cell? ⟨w.heap.size + 1, 0, none⟩ = some (.bool s2) := by rw [← hW]; simp [go_sem]
  have dw3 : W.drew.cell? ⟨w.heap.size + 1, 0, none⟩ = some (.bool s2) := xw3
  have xw4 : W.cell? ⟨w.heap.size + 1, 1, none⟩ = some (.slice p2 l2 c2) := by rw [← hW]; simp [go_sem]
  have dw4 : W.drew.cell? ⟨w.heap.size + 1, 1, none⟩ = some (.slice p2 l2 c2) := xw4
  have xw5 : W.cell? ⟨w.heap.size + 1, 2, none⟩ = some (.slice q2 k2 d2) := by rw [← hW]; simp [go_sem]
  have dw5 : W.drew.cell? ⟨w.heap.size + 1, 2, none⟩ = some (.slice q2 k2 d2) := xw5
  have r0 : W.cell? ⟨w.heap.size + 2, 0, none⟩ = some (.bool false) := by rw [← hW]; simp [go_sem]
  have rz0 : W.frozen? ⟨w.heap.size + 2, 0, none⟩ = false := by rw [← hW]; simp [go_sem]
  have r1 : W.cell? ⟨w.heap.size + 2, 1, none⟩ = some (.slice none 0 0) := by rw [← hW]; simp [go_sem]
  have rz1 : W.frozen? ⟨w.heap.size + 2, 1, none⟩ = false := by rw [← hW]; simp [go_sem]
  have r2 : W.cell? ⟨w.heap.size + 2, 2, none⟩ = some (.slice none 0 0) := by rw [← hW]; simp [go_sem]
  have rz2 : W.frozen? ⟨w.heap.size + 2, 2, none⟩ = false := by rw [← hW]; simp [go_sem]
  have hBW : w.heap.size + 2 < W.heap.size := cell_lt r0
  have hn1 : w.heap.size + 2 ≠ w.heap.size := by omega
  have hn2 : w.heap.size + 2 ≠ w.heap.size + 1 := by omega
  clear hW
  go_region_held3 (fun w' => w'.cell? ⟨w.heap.size, 0, none⟩ = some (.bool s) ∧ w'.cell? ⟨w.heap.size, 1, none⟩ = some (.slice p l c) ∧ w'.cell? ⟨w.heap.size, 2, none⟩ = some (.slice q k d) ∧ w'.cell? ⟨w.heap.size + 1, 0, none⟩ = some (.bool s2) ∧ w'.cell? ⟨w.heap.size + 1, 1, none⟩ = some (.slice p2 l2 c2) ∧ w'.cell? ⟨w.heap.size + 1, 2, none⟩ = some (.slice q2 k2 d2)) (first | (with_reducible exact ⟨xw0, xw1, xw2, xw3, xw4, xw5⟩) | (with_reducible exact ⟨dw0, dw1, dw2, dw3, dw4, dw5⟩) | (with_reducible exact ⟨aw0, aw1, aw2, aw3, aw4, aw5⟩) | (with_reducible exact ⟨bw0, bw1, bw2, bw3, bw4, bw5⟩) | (exact ⟨((World.cell?_setCell_far _ _ _ _ hn1).trans ((World.cell?_setCell_far _ _ _ _ hn1).trans ((World.cell?_setCell_far _ _ _ _ hn1).trans bw0))), ((World.cell?_setCell_far _ _ _ _ hn1).trans ((World.cell?_setCell_far _ _ _ _ hn1).trans ((World.cell?_setCell_far _ _ _ _ hn1).trans bw1))), ((World.cell?_setCell_far _ _ _ _ hn1).trans ((World.cell?_setCell_far _ _ _ _ hn1).trans ((World.cell?_setCell_far _ _ _ _ hn1).trans bw2))), ((World.cell?_setCell_far _ _ _ _ hn2).trans ((World.cell?_setCell_far _ _ _ _ hn2).trans ((World.cell?_setCell_far _ _ _ _ hn2).trans bw3))), ((World.cell?_setCell_far _ _ _ _ hn2).trans ((World.cell?_setCell_far _ _ _ _ hn2).trans ((World.cell?_setCell_far _ _ _ _ hn2).trans bw4))), ((World.cell?_setCell_far _ _ _ _ hn2).trans ((World.cell?_setCell_far _ _ _ _ hn2).trans ((World.cell?_setCell_far _ _ _ _ hn2).trans bw5)))⟩)) (first | (go_at_call 48; refine (hN _ ?q0).mono ?_; (case q0 => exact kw.drew); rintro e wl ⟨s5, p5, l5, c5, q5, k5, d5, rfl, hp5, gl⟩; have kl : Kp W wl := Kp.trans (Kp.drew (Kp.refl _)) gl; have aw0 := kkeep kl xw0; have aw1 := kkeep kl xw1; have aw2 := kkeep kl xw2; have aw3 := kkeep kl xw3; have aw4 := kkeep kl xw4; have aw5 := kkeep kl xw5) | (go_at_call 54; refine (hA _ s5 p5 l5 c5 q5 k5 d5 (kw.trans kl) hp5).mono ?_; rintro e wh ⟨s3, p3, l3, c3, q3, k3, d3, rfl, hp3, gh⟩; have kh : Kp W wh := Kp.trans kl gh; have bw0 := kkeep kh xw0; have bw1 := kkeep kh xw1; have bw2 := kkeep kh xw2; have bw3 := kkeep kh xw3; have bw4 := kkeep kh xw4; have bw5 := kkeep kh xw5; have R0 := kkeep kh r0; have Rz0 : wh.frozen? ⟨w.heap.size + 2, 0, none⟩ = false := (kfro kh (cell_lt r0)).trans rz0; have R1 := kkeep kh r1; have Rz1 : wh.frozen? ⟨w.heap.size + 2, 1, none⟩ = false := (kfro kh (cell_lt r1)).trans rz1; have R2 := kkeep kh r2; have Rz2 : wh.frozen? ⟨w.heap.size + 2, 2, none⟩ = false := (kfro kh (cell_lt r2)).trans rz2))
  go_wp2
  exact bodyPost_ret (v := .agg #[.bool s3, .slice p3 l3 c3, .slice q3 k3 d3]) (by simp [results, Try.results50, go_sem, R0, R1, R2]) rfl ⟨wl, wh, s3, p3, l3, c3, q3, k3, d3, rfl, hp3, rfl, Nat.lt_of_lt_of_le hBW (Below.size kl), Kp.trans kw kh⟩

theorem xsub_ (V V' : Int) (C C' N N' : Nat) (hN : N + N' ≤ 100000) (s : Bool) (p : Option Addr) (l c : Nat) (q : Option Addr) (k d : Nat) (s2 : Bool) (p2 : Option Addr) (l2 c2 : Nat) (q2 : Option Addr) (k2 d2 : Nat) (B1 B2 : Nat) (w : World) (h1 : XP B1 w s p l c q k d V C N) (h2 : XP B2 w s2 p2 l2 c2 q2 k2 d2 V' C' N') : Calls Try.prog 50 #[.agg #[.bool s, .slice p l c, .slice q k d], .agg #[.bool s2, .slice p2 l2 c2, .slice q2 k2 d2]] w fun e w' => ∃ (s3 : Bool) (p3 : Option Addr) (l3 c3 : Nat) (q3 : Option Addr) (k3 d3 : Nat), e = .returned (.agg #[.bool s3, .slice p3 l3 c3, .slice q3 k3 d3]) ∧ XP w.heap.size w' s3 p3 l3 c3 q3 k3 d3 (V * (C' : Int) - V' * (C : Int)) (C * C') (2 * (N + N') + 3) ∧ Kp w w' := by
  refine (rsubA_ (fun _ w' v => ∃ (s5 : Bool) (p5 : Option Addr) (l5 c5 : Nat) (q5 : Option Addr) (k5 d5 : Nat), v = .agg #[.bool s5, .slice p5 l5 c5, .slice q5 k5 d5] ∧ XP 0 w' s5 p5 l5 c5 q5 k5 d5 (-V') C' N') (fun W w' v => ∃ (s3 : Bool) (p3 : Option Addr) (l3 c3 : Nat) (q3 : Option Addr) (k3 d3 : Nat), v = .agg #[.bool s3, .slice p3 l3 c3, .slice q3 k3 d3] ∧ XP W.heap.size w' s3 p3 l3 c3 q3 k3 d3 (V * (C' : Int) - V' * (C : Int)) (C * C') (2 * (N + N') + 3)) s p l c q k d s2 p2 l2 c2 q2 k2 d2 w (fun W g => ?_) (fun W s5 p5 l5 c5 q5 k5 d5 g hp => ?_)).mono ?_
  · refine (xneg_ V' C' N' (by omega) s2 p2 l2 c2 q2 k2 d2 B2 W (h2.kp g)).mono ?_
    rintro e w' ⟨s5, p5, l5, c5, q5, k5, d5, rfl, hp, g2⟩
    exact ⟨s5, p5, l5, c5, q5, k5, d5, rfl, ⟨s5, p5, l5, c5, q5, k5, d5, rfl, hp.mono (Nat.zero_le _)⟩, g2⟩
  · obtain ⟨s6, p6, l6, c6, q6, k6, d6, e6, hp6⟩ := hp
    simp at e6
    obtain ⟨rfl, ⟨rfl, rfl, rfl⟩, rfl, rfl, rfl⟩ := e6
    refine (xadd_ V (-V') C C' N N' hN s p l c q k d s5 p5 l5 c5 q5 k5 d5 B1 0 W (h1.kp g) hp6).mono ?_
    rintro e w' ⟨s3, p3, l3, c3, q3, k3, d3, rfl, hq, g2⟩
    refine ⟨s3, p3, l3, c3, q3, k3, d3, rfl, ⟨s3, p3, l3, c3, q3, k3, d3, rfl, ?_⟩, g2⟩
    rw [show V * (C' : Int) - V' * (C : Int) = V * (C' : Int) + -V' * (C : Int) from by rw [Int.neg_mul]; omega]
    exact hq
  · rintro e w' ⟨W, wh, s3, p3, l3, c3, q3, k3, d3, rfl, ⟨s4, p4, l4, c4, q4, k4, d4, e4, hq⟩, rfl, hlt, g⟩
    simp at e4
    obtain ⟨rfl, ⟨rfl, rfl, rfl⟩, rfl, rfl, rfl⟩ := e4
    refine ⟨s3, p3, l3, c3, q3, k3, d3, rfl, XP.mono ((((hq).set (x := ⟨w.heap.size + 2, 0, none⟩) hlt (.bool s3)).set (x := ⟨w.heap.size + 2, 1, none⟩) hlt (.slice p3 l3 c3)).set (x := ⟨w.heap.size + 2, 2, none⟩) hlt (.slice q3 k3 d3)) (by omega), (((g).setCell (by simp <;> omega) _).setCell (by simp <;> omega) _).setCell (by simp <;> omega) _⟩
set_option linter.unusedVariables false
def sgV (V : Int) : Int := if V < 0 then -1 else if V = 0 then 0 else 1
theorem XF.sign {s : Bool} {a b : Nat} {V : Int} {C N : Nat} (h : XF s a b V C N) : (if a = 0 then (0 : Int) else if s then -1 else 1) = sgV V := by
  obtain ⟨h1, h2, h3, -, -⟩ := h
  have hb : (0 : Int) < (b : Int) := by omega
  have hc : (0 : Int) < (C : Int) := by omega
  unfold sgV
  by_cases z : a = 0
  · rw [if_pos z]
    have e : V * (b : Int) = 0 := by rw [← h3, z]; unfold rvI; simp
    rcases Int.mul_eq_zero.1 e with c | c
    · rw [c]; simp
    · omega
  · rw [if_neg z]
    have ha : (0 : Int) < (a : Int) * (C : Int) := Int.mul_pos (by omega) hc
    cases s
    · have e : (a : Int) * (C : Int) = V * (b : Int) := by rw [← h3]; unfold rvI; simp
      have hv : 0 < V := by
        rcases Int.lt_or_le 0 V with g | g
        · exact g
        · have := Int.mul_le_mul_of_nonneg_right g (show (0 : Int) ≤ (b : Int) by omega)
          rw [← e, Int.zero_mul] at this; omega
      rw [if_neg (by decide), if_neg (by omega), if_neg (by omega)]
    · have e : (a : Int) * (C : Int) = (-V) * (b : Int) := by rw [Int.neg_mul, ← h3]; unfold rvI; simp [Int.neg_mul]
      have hv : 0 < -V := by
        rcases Int.lt_or_le 0 (-V) with g | g
        · exact g
        · have := Int.mul_le_mul_of_nonneg_right g (show (0 : Int) ≤ (b : Int) by omega)
          rw [← e, Int.zero_mul] at this; omega
      rw [if_pos rfl, if_pos (by omega)]
theorem xsign_ (V : Int) (C N : Nat) (hN : N ≤ 200000) (s : Bool) (p : Option Addr) (l c : Nat) (q : Option Addr) (k d : Nat) (B1 : Nat) (w : World) (h : XP B1 w s p l c q k d V C N) : Calls Try.prog 46 #[.agg #[.bool s, .slice p l c, .slice q k d]] w fun e w' => e = .returned (.int .i64 (sgV V)) ∧ Kp w w' := by
  obtain ⟨a, b, o1, o2, hx⟩ := h
  have e := hx.sign
  have := rsign_ s (.slice p l c) (.slice q k d) a w o1.ls (by have := hx.2.2.2.1; omega)
  rw [e] at this
  exact this
theorem stV1_div (U : Nat) (hU : 0 < U) (V : Int) : stV 1 U V = V / (U : Int) * (U : Int) := by
  have h := flN_val (decide (V < 0)) V.natAbs U (by omega)
  have e : rvI (decide (V < 0)) V.natAbs = V := by
    unfold rvI
    by_cases c : V < 0
    · rw [if_pos (by simpa using c)]; omega
    · rw [if_neg (by simpa using c)]; omega
  rw [e] at h
  rw [← h]
  unfold stV rvI flN cutN bmp
  by_cases c : V < 0
  · by_cases z : V.natAbs % U = 0
    · simp [c, z, Int.neg_mul]
    · have z' : (V.natAbs % U != 0) = true := by simpa using z
      rw [z']
      simp [c, z, Int.neg_mul]
  · simp [c]
theorem stV3_div (U : Nat) (hU : 0 < U) (V : Int) : stV 3 U V = if V < 0 then -((-V) / (U : Int)) * (U : Int) else V / (U : Int) * (U : Int) := by
  have e3 : cutN 3 true V.natAbs U = V.natAbs / U := by unfold cutN bmp; simp
  have e4 : cutN 3 false V.natAbs U = V.natAbs / U := by unfold cutN bmp; simp
  unfold stV
  rw [if_neg (by decide), e3, e4]
  by_cases c : V < 0
  · rw [if_pos c, if_pos c]
    have e : -V = ((V.natAbs : Nat) : Int) := by omega
    rw [e, Int.neg_mul, Int.natCast_mul]; rfl
  · rw [if_neg c, if_neg c]
    have e : V = ((V.natAbs : Nat) : Int) := by omega
    conv => rhs; rw [e]
    rw [Int.natCast_mul]; rfl
theorem stX1_ (V : Int) (C N : Nat) (hN : N ≤ 40000) (s : Bool) (p : Option Addr) (l c : Nat) (q : Option Addr) (k d : Nat) (B1 : Nat) (w : World) (h : XP B1 w s p l c q k d V C N) : Calls Try.prog 32 #[.int .i64 1, .agg #[.bool s, .slice p l c, .slice q k d]] w fun e w' => ∃ (s3 : Bool) (p3 : Option Addr) (l3 c3 : Nat) (q3 : Option Addr) (k3 d3 : Nat), e = .returned (.agg #[.bool s3, .slice p3 l3 c3, .slice q3 k3 d3]) ∧ XP w.heap.size w' s3 p3 l3 c3 q3 k3 d3 (stV 1 C V) C (5 * N + 20) ∧ Kp w w' := by
  have hc : C ≠ 0 := by obtain ⟨a, b, -, -, hx⟩ := h; exact hx.2.1
  refine (stA1_ s p l c q k d (fun W w' s3 p3 l3 c3 q3 k3 d3 => XP W.heap.size w' s3 p3 l3 c3 q3 k3 d3 (stV 1 C V) C (5 * N + 20)) w (fun W g => ?_)).mono ?_
  · refine (floorX_ V C N (by omega) s p l c q k d B1 W (h.kp g)).mono ?_
    rintro e w' ⟨s3, p3, l3, c3, q3, k3, d3, rfl, hf, g1⟩
    exact ⟨s3, p3, l3, c3, q3, k3, d3, rfl, hf.xp.as _ C _ hc (by rw [stV1_div C (by omega) V]; simp) (by omega), g1⟩
  · rintro e w' ⟨W, wh, s3, p3, l3, c3, q3, k3, d3, rfl, hq, rfl, hlt, g⟩
    exact ⟨s3, p3, l3, c3, q3, k3, d3, rfl, XP.mono ((((hq).set (x := ⟨w.heap.size + 1, 0, none⟩) hlt (.bool s3)).set (x := ⟨w.heap.size + 1, 1, none⟩) hlt (.slice p3 l3 c3)).set (x := ⟨w.heap.size + 1, 2, none⟩) hlt (.slice q3 k3 d3)) (by omega), (((g).setCell (by simp) _).setCell (by simp) _).setCell (by simp) _⟩
theorem stX2_ (V : Int) (C N : Nat) (hN : N ≤ 40000) (s : Bool) (p : Option Addr) (l c : Nat) (q : Option Addr) (k d : Nat) (B1 : Nat) (w : World) (h : XP B1 w s p l c q k d V C N) : Calls Try.prog 32 #[.int .i64 2, .agg #[.bool s, .slice p l c, .slice q k d]] w fun e w' => ∃ (s3 : Bool) (p3 : Option Addr) (l3 c3 : Nat) (q3 : Option Addr) (k3 d3 : Nat), e = .returned (.agg #[.bool s3, .slice p3 l3 c3, .slice q3 k3 d3]) ∧ XP w.heap.size w' s3 p3 l3 c3 q3 k3 d3 (stV 2 C V) C (5 * N + 20) ∧ Kp w w' := by
  have hc : C ≠ 0 := by obtain ⟨a, b, -, -, hx⟩ := h; exact hx.2.1
  refine (stA2_ s p l c q k d (fun w' s5 p5 l5 c5 q5 k5 d5 => XP 0 w' s5 p5 l5 c5 q5 k5 d5 (-V) C N) (fun w' s6 p6 l6 c6 q6 k6 d6 => XP 0 w' s6 p6 l6 c6 q6 k6 d6 ((-V) / (C : Int)) 1 (N + 2)) (fun W w' s3 p3 l3 c3 q3 k3 d3 => XP W.heap.size w' s3 p3 l3 c3 q3 k3 d3 (stV 2 C V) C (5 * N + 20)) w (fun W g => ?_) (fun W s5 p5 l5 c5 q5 k5 d5 g h5 => ?_) (fun W s6 p6 l6 c6 q6 k6 d6 g h6 => ?_)).mono ?_
  · refine (xneg_ V C N (by omega) s p l c q k d B1 W (h.kp g)).mono ?_
    rintro e w' ⟨s5, p5, l5, c5, q5, k5, d5, rfl, hp, g1⟩
    exact ⟨s5, p5, l5, c5, q5, k5, d5, rfl, hp.mono (Nat.zero_le _), g1⟩
  · refine (floorX_ (-V) C N (by omega) s5 p5 l5 c5 q5 k5 d5 0 W h5).mono ?_
    rintro e w' ⟨s6, p6, l6, c6, q6, k6, d6, rfl, hf, g1⟩
    exact ⟨s6, p6, l6, c6, q6, k6, d6, rfl, hf.xp.mono (Nat.zero_le _), g1⟩
  · refine (xneg_ _ 1 (N + 2) (by omega) s6 p6 l6 c6 q6 k6 d6 0 W h6).mono ?_
    rintro e w' ⟨s3, p3, l3, c3, q3, k3, d3, rfl, hp, g1⟩
    exact ⟨s3, p3, l3, c3, q3, k3, d3, rfl, hp.as _ C _ hc (by rw [stV_12 C (by omega) V, stV1_div C (by omega) (-V), Int.neg_mul]; simp) (by omega), g1⟩
  · rintro e w' ⟨W, wh, s3, p3, l3, c3, q3, k3, d3, rfl, hq, rfl, hlt, g⟩
    exact ⟨s3, p3, l3, c3, q3, k3, d3, rfl, XP.mono ((((hq).set (x := ⟨w.heap.size + 1, 0, none⟩) hlt (.bool s3)).set (x := ⟨w.heap.size + 1, 1, none⟩) hlt (.slice p3 l3 c3)).set (x := ⟨w.heap.size + 1, 2, none⟩) hlt (.slice q3 k3 d3)) (by omega), (((g).setCell (by simp) _).setCell (by simp) _).setCell (by simp) _⟩
theorem stX3_ (V : Int) (C N : Nat) (hN : N ≤ 40000) (s : Bool) (p : Option Addr) (l c : Nat) (q : Option Addr) (k d : Nat) (B1 : Nat) (w : World) (h : XP B1 w s p l c q k d V C N) : Calls Try.prog 32 #[.int .i64 3, .agg #[.bool s, .slice p l c, .slice q k d]] w fun e w' => ∃ (s3 : Bool) (p3 : Option Addr) (l3 c3 : Nat) (q3 : Option Addr) (k3 d3 : Nat), e = .returned (.agg #[.bool s3, .slice p3 l3 c3, .slice q3 k3 d3]) ∧ XP w.heap.size w' s3 p3 l3 c3 q3 k3 d3 (stV 3 C V) C (5 * N + 20) ∧ Kp w w' := by
  have hc : C ≠ 0 := by obtain ⟨a, b, -, -, hx⟩ := h; exact hx.2.1
  by_cases ng : V < 0
  · have sg : sgV V < 0 := by unfold sgV; rw [if_pos ng]; decide
    refine (stA3n_ (sgV V) sg s p l c q k d (fun W w' s5 p5 l5 c5 q5 k5 d5 => XP W.heap.size w' s5 p5 l5 c5 q5 k5 d5 (-V) C N) (fun w' s6 p6 l6 c6 q6 k6 d6 => XP 0 w' s6 p6 l6 c6 q6 k6 d6 ((-V) / (C : Int)) 1 (N + 2)) (fun W w' s3 p3 l3 c3 q3 k3 d3 => XP W.heap.size w' s3 p3 l3 c3 q3 k3 d3 (stV 3 C V) C (5 * N + 20)) w (fun W g => xsign_ V C N (by omega) s p l c q k d B1 W (h.kp g)) (fun W g => ?_) (fun W W' b s5 p5 l5 c5 q5 k5 d5 g h5 hb => ?_) (fun U W s6 p6 l6 c6 q6 k6 d6 g h6 gu => ?_)).mono ?_
    · refine (xneg_ V C N (by omega) s p l c q k d B1 W (h.kp g)).mono ?_
      rintro e w' ⟨s5, p5, l5, c5, q5, k5, d5, rfl, hp, g1⟩
      exact ⟨s5, p5, l5, c5, q5, k5, d5, rfl, hp, g1⟩
    · have h5' := (((h5).set (x := ⟨b, 0, none⟩) hb (.bool s5)).set (x := ⟨b, 1, none⟩) hb (.slice p5 l5 c5)).set (x := ⟨b, 2, none⟩) hb (.slice q5 k5 d5)
      refine (floorX_ (-V) C N (by omega) s5 p5 l5 c5 q5 k5 d5 W.heap.size _ h5').mono ?_
      rintro e w' ⟨s6, p6, l6, c6, q6, k6, d6, rfl, hf, g1⟩
      exact ⟨s6, p6, l6, c6, q6, k6, d6, rfl, hf.xp.mono (Nat.zero_le _), g1⟩
    · refine (xneg_ _ 1 (N + 2) (by omega) s6 p6 l6 c6 q6 k6 d6 0 W (h6.kp gu)).mono ?_
      rintro e w' ⟨s3, p3, l3, c3, q3, k3, d3, rfl, hp, g1⟩
      exact ⟨s3, p3, l3, c3, q3, k3, d3, rfl, hp.as _ C _ hc (by rw [stV3_div C (by omega) V, if_pos ng]; simp) (by omega), g1⟩
    · rintro e w' ⟨W, W2, wh, s3, p3, l3, c3, q3, k3, d3, rfl, hq, kk, rfl, hlt, g⟩
      replace hq := hq.kp kk
      exact ⟨s3, p3, l3, c3, q3, k3, d3, rfl, XP.mono ((((hq).set (x := ⟨w.heap.size + 1, 0, none⟩) hlt (.bool s3)).set (x := ⟨w.heap.size + 1, 1, none⟩) hlt (.slice p3 l3 c3)).set (x := ⟨w.heap.size + 1, 2, none⟩) hlt (.slice q3 k3 d3)) (by omega), (((g).setCell (by simp) _).setCell (by simp) _).setCell (by simp) _⟩
  · have sg : ¬ sgV V < 0 := by unfold sgV; rw [if_neg ng]; split <;> decide
    refine (stA3_ (sgV V) sg s p l c q k d (fun W w' s3 p3 l3 c3 q3 k3 d3 => XP W.heap.size w' s3 p3 l3 c3 q3 k3 d3 (stV 3 C V) C (5 * N + 20)) w (fun W g => xsign_ V C N (by omega) s p l c q k d B1 W (h.kp g)) (fun W g => ?_)).mono ?_
    · refine (floorX_ V C N (by omega) s p l c q k d B1 W (h.kp g)).mono ?_
      rintro e w' ⟨s3, p3, l3, c3, q3, k3, d3, rfl, hf, g1⟩
      exact ⟨s3, p3, l3, c3, q3, k3, d3, rfl, hf.xp.as _ C _ hc (by rw [stV3_div C (by omega) V, if_neg ng]; simp) (by omega), g1⟩
    · rintro e w' ⟨W, W2, wh, s3, p3, l3, c3, q3, k3, d3, rfl, hq, kk, rfl, hlt, g⟩
      replace hq := hq.kp kk
      exact ⟨s3, p3, l3, c3, q3, k3, d3, rfl, XP.mono ((((hq).set (x := ⟨w.heap.size + 1, 0, none⟩) hlt (.bool s3)).set (x := ⟨w.heap.size + 1, 1, none⟩) hlt (.slice p3 l3 c3)).set (x := ⟨w.heap.size + 1, 2, none⟩) hlt (.slice q3 k3 d3)) (by omega), (((g).setCell (by simp) _).setCell (by simp) _).setCell (by simp) _⟩
set_option linter.unusedVariables false
set_option maxRecDepth 20000 in
set_option maxHeartbeats 400000 in
theorem bitZ_ (p : Option Addr) (c : Nat) (w : World) : Calls Try.prog 52 #[.slice p 0 c, .int .i64 0] w fun e w' => e = .returned (.int .u32 0) ∧ Kp w w' := by
  go_enter Try.func52, Try.ntmps52
  go_wp2
  exact bodyPost_ret (v := .int .u32 0) (by simp [results, Try.results52, go_sem]) rfl ⟨rfl, Kp.refl _⟩
theorem bitX_ (p : Option Addr) (l c a : Nat) (w : World) (h : Ls w (.slice p l c) (dig a)) (ha : blen a ≤ 400000) : Calls Try.prog 52 #[.slice p l c, .int .i64 0] w fun e w' => e = .returned (.int .u32 ((a % 2 : Nat) : Int)) ∧ Kp w w' := by
  obtain ⟨p1, c1, e1, h1, h2⟩ := h
  simp at e1
  obtain ⟨rfl, rfl, rfl⟩ := e1
  by_cases z : a = 0
  · subst z
    rw [show (dig 0).length = 0 by rw [dig_zero]; rfl]
    exact bitZ_ _ _ w
  · have hl := dlen a 16384 (by omega)
    have hp : 0 < (dig a).length := Nat.pos_of_ne_zero fun h => z ((dig_len_zero a).1 h)
    refine (rbit_ p c 0 0 (dig a) w h1 (Wd_dig a) (by omega) hp (by decide)).mono ?_
    rintro e w' ⟨rfl, rfl⟩
    refine ⟨?_, Kp.refl _⟩
    rw [dig_pos a z]
    simp
    omega
theorem halfX_ (W : World) : Calls Try.prog 51 #[.bool false, .slice (some ⟨W.heap.size, 0, none⟩) 1 1, .slice (some ⟨W.heap.size + 1, 0, none⟩) 1 1, .int .i64 0] ((W.alloc (.cells #[.int .u32 1] 67)).alloc (.cells #[.int .u32 2] 67)) fun e w' => ∃ (s3 : Bool) (p3 : Option Addr) (l3 c3 : Nat) (q3 : Option Addr) (k3 d3 : Nat), e = .returned (.agg #[.bool s3, .slice p3 l3 c3, .slice q3 k3 d3]) ∧ XP W.heap.size w' s3 p3 l3 c3 q3 k3 d3 1 2 20 ∧ Kp ((W.alloc (.cells #[.int .u32 1] 67)).alloc (.cells #[.int .u32 2] 67)) w' := by
  obtain ⟨w1, hw1⟩ : ∃ w1, w1 = W.alloc (.cells #[.int .u32 1] 67) := ⟨_, rfl⟩
  obtain ⟨w2, hw2⟩ : ∃ w2, w2 = w1.alloc (.cells #[.int .u32 2] 67) := ⟨_, rfl⟩
  have sz : w1.heap.size = W.heap.size + 1 := by rw [hw1]; simp
  have k1 : Kp W w1 := by rw [hw1]; exact (Kp.refl _).alloc _
  have k2 : Kp w1 w2 := by rw [hw2]; exact (Kp.refl _).alloc _
  have d2 : dig 2 = [2] := by rw [dig_pos 2 (by decide)]; simp [dig_zero]
  have ar1 : Ls w1 (.slice (some ⟨W.heap.size, 0, none⟩) 1 1) (dig 1) := by
    rw [dig_one6, hw1]; exact ⟨_, 1, rfl, (row1 W 1).all rfl, by decide⟩
  have ar2 : Ls w2 (.slice (some ⟨W.heap.size + 1, 0, none⟩) 1 1) (dig 2) := by
    rw [d2, hw2, ← sz]; exact ⟨_, 1, rfl, (row1 w1 2).all rfl, by decide⟩
  rw [← hw1, ← hw2]
  have h := frac_ false _ _ (dig 1) (dig 2) 0 w2 (ar1.kp k2) ar2 (Wd_dig _) (Wd_dig _) (by rw [dig_one6]; decide) (by rw [d2]; decide) (by rw [val_dig]; decide) (by decide)
  rw [val_dig, val_dig] at h
  refine h.mono ?_
  rintro e w5 ⟨vn, vd, a', b', ng', rfl, u1, u2, ff, k5⟩
  obtain ⟨pn, cn, rfl, an, ln⟩ := u1.arr
  obtain ⟨pd, cd, rfl, ad, ld⟩ := u2.arr
  refine ⟨ng', pn, _, cn, pd, _, cd, rfl, ?_, k5⟩
  have e := frac_x 1 2 a' b' ng' false (by decide) ff.1 (fun h => ff.2 h)
  have b1 := ff.1.2.2.2.1
  have b2 := ff.1.2.2.2.2
  have h1 : blen 1 = 1 := blen_uniq 1 0 (by decide) (by decide)
  have h2 : blen 2 = 2 := blen_uniq 2 1 (by decide) (by decide)
  have hs := Below.size (Kp.trans k1 k2)
  refine ⟨a', b', u1.mono hs, u2.mono hs, ff.1.1, by decide, ?_, by simp at b1; omega, by simp at b2; omega⟩
  simpa [rvI] using e
end Go.Proofs.Ytbbmoaiilnfmgaa
