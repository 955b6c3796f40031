import Derived.Test.YtmgfbalhgfkibaaGreatDoorKEX
import Derived.Test.YtmgfbalhgfkibaaGreatDoorKEY
namespace Go.Proofs.YtmgfbalhgfkibaaGreatDoor
open Go.RowKit

def SV0 (N : Bool) (v : Value) : Prop := ∃ (i j : Int) (s : Bool) (p : Option Addr) (l c : Nat) (q : Option Addr) (k d : Nat) (s2 : Bool) (p2 : Option Addr) (l2 c2 : Nat) (q2 : Option Addr) (k2 d2 : Nat), v = .agg #[.bool N, .int .i64 i, .bool s, .slice p l c, .slice q k d, .int .i64 j, .bool s2, .slice p2 l2 c2, .slice q2 k2 d2]
def SV1 (n : Bool) (m : Nat) (n' : Bool) (m' : Nat) (W : World) (v : Value) : Prop := ∃ (s : Bool) (p : Option Addr) (l c : Nat) (q : Option Addr) (k d : Nat) (s2 : Bool) (p2 : Option Addr) (l2 c2 : Nat) (q2 : Option Addr) (k2 d2 : Nat), v = .agg #[.bool false, .int .i64 (infS n m), .bool s, .slice p l c, .slice q k d, .int .i64 (infS n' m'), .bool s2, .slice p2 l2 c2, .slice q2 k2 d2] ∧ RP 0 W s p l c q k d (fN n m) (fM m) ∧ RP 0 W s2 p2 l2 c2 q2 k2 d2 (fN n' m') (fM m')
theorem SV1.sv0 {n : Bool} {m : Nat} {n' : Bool} {m' : Nat} {W : World} {v : Value} (h : SV1 n m n' m' W v) : SV0 false v := by
  obtain ⟨s, p, l, c, q, k, d, s2, p2, l2, c2, q2, k2, d2, e, -, -⟩ := h
  exact ⟨_, _, s, p, l, c, q, k, d, s2, p2, l2, c2, q2, k2, d2, e⟩
theorem SV1.kp {n : Bool} {m : Nat} {n' : Bool} {m' : Nat} {W W' : World} {v : Value} (g : Kp W W') (h : SV1 n m n' m' W v) : SV1 n m n' m' W' v := by
  obtain ⟨s, p, l, c, q, k, d, s2, p2, l2, c2, q2, k2, d2, e, h1, h2⟩ := h
  exact ⟨s, p, l, c, q, k, d, s2, p2, l2, c2, q2, k2, d2, e, h1.kp g, h2.kp g⟩
theorem pla_ne (x : Nat) : Fq.pla x ≠ 9223372036854775808 := by unfold Fq.pla; split <;> omega
theorem rlo_ne (a b : Nat) : Fq.rlo a b ≠ 9223372036854775808 := by
  unfold Fq.rlo
  split
  · exact pla_ne a
  · decide
theorem rhi_ne (a b : Nat) : Fq.rhi a b ≠ 9223372036854775808 := by
  unfold Fq.rhi
  split
  · exact pla_ne b
  · decide
theorem ofEmpty_ (a b : Nat) (ha : a < 18446744073709551616) (hb : b < 18446744073709551616) (hs : Fq.snd a b = false) (w : World) : Calls Tryz.prog 17 #[.agg #[.int .u64 ((a : Nat) : Int), .int .u64 ((b : Nat) : Int)]] w fun e w' => ∃ v, e = .returned v ∧ SV0 true v ∧ Kp w w' := by
  have hr : ∀ w : World, Calls Tryz.prog 31 #[.agg #[.int .u64 ((a : Nat) : Int), .int .u64 ((b : Nat) : Int)]] w fun e w' => e = .returned (.agg #[.int .u64 9218868437227405312, .int .u64 18442240474082181120]) ∧ Kp w w' := by
    obtain ⟨n, m, hm, rfl⟩ := Fq.exD a ha
    obtain ⟨n', m', hm', rfl⟩ := Fq.exD b hb
    intro w
    have h := Fq.rread_ n n' m m' hm hm' w
    rw [show Fq.rlo (Fq.wD n m) (Fq.wD n' m') = 9218868437227405312 from by simp [Fq.rlo, hs], show Fq.rhi (Fq.wD n m) (Fq.wD n' m') = 18442240474082181120 from by simp [Fq.rhi, hs]] at h
    exact h
  refine (ofE_ _ _ hr w).mono ?_
  rintro e w' ⟨s, p, l, c, q, k, d, s2, p2, l2, c2, q2, k2, d2, rfl, -, -, g⟩
  exact ⟨_, rfl, ⟨0, 0, s, p, l, c, q, k, d, s2, p2, l2, c2, q2, k2, d2, rfl⟩, g⟩
theorem ofSound_ (a b : Nat) (ha : a < 18446744073709551616) (hb : b < 18446744073709551616) (hs : Fq.snd a b = true) (n n' : Bool) (m m' : Nat) (hm : m ≤ 9218868437227405312) (hm' : m' ≤ 9218868437227405312) (e1 : Fq.rlo a b = Fq.wD n m) (e2 : Fq.rhi a b = Fq.wD n' m') (w : World) : Calls Tryz.prog 17 #[.agg #[.int .u64 ((a : Nat) : Int), .int .u64 ((b : Nat) : Int)]] w fun e w' => ∃ v, e = .returned v ∧ SV1 n m n' m' w' v ∧ Kp w w' := by
  have hr : ∀ w : World, Calls Tryz.prog 31 #[.agg #[.int .u64 ((a : Nat) : Int), .int .u64 ((b : Nat) : Int)]] w fun e w' => e = .returned (.agg #[.int .u64 ((Fq.wD n m : Nat) : Int), .int .u64 ((Fq.wD n' m' : Nat) : Int)]) ∧ Kp w w' := by
    rw [← e1, ← e2]
    obtain ⟨n, m, hm, rfl⟩ := Fq.exD a ha
    obtain ⟨n', m', hm', rfl⟩ := Fq.exD b hb
    exact fun w => Fq.rread_ n n' m m' hm hm' w
  have t1 : (((Fq.wD n m : Nat) : Int) == 9218868437227405312) = false := by
    have h1 : Fq.rlo a b ≠ 9218868437227405312 := by
      have h2 : a ≠ 9218868437227405312 := by intro h; rw [h] at hs; simp [Fq.snd] at hs
      simp only [Fq.rlo, hs, if_true, Fq.pla]; split <;> omega
    rw [e1] at h1
    simp; omega
  refine (ofS_ _ _ _ _ _ _ _ _ _ _ hr (bound_ n m hm (e1 ▸ rlo_ne a b)) (bound_ n' m' hm' (e2 ▸ rhi_ne a b)) t1 w).mono ?_
  rintro e w' ⟨s, p, l, c, q, k, d, s2, p2, l2, c2, q2, k2, d2, rfl, h1, h2, g⟩
  exact ⟨_, rfl, ⟨s, p, l, c, q, k, d, s2, p2, l2, c2, q2, k2, d2, rfl, h1.mono (Nat.zero_le _), h2.mono (Nat.zero_le _)⟩, g⟩
set_option maxRecDepth 20000 in
set_option maxHeartbeats 1000000 in
theorem none6_ (w : World) : Calls Tryz.prog 27 #[] w fun e w' => ∃ (s : Bool) (p : Option Addr) (l c : Nat) (q : Option Addr) (k d : Nat) (s2 : Bool) (p2 : Option Addr) (l2 c2 : Nat) (q2 : Option Addr) (k2 d2 : Nat), e = .returned (.agg #[.bool true, .int .i64 0, .bool s, .slice p l c, .slice q k d, .int .i64 0, .bool s2, .slice p2 l2 c2, .slice q2 k2 d2]) ∧ Kp w w' := by
  go_enter Tryz.func27, Tryz.ntmps27
  go_wp2_with (first | (go_at_call 32; refine (fin0_ _).mono ?_; rintro e wh ⟨s2, p2, l2, c2, q2, k2, d2, rfl, hp2, gh⟩; have kh := Kp.trans kl gh; have R0 := kkeep gh r0; have Rz0 : wh.frozen? ⟨w.heap.size, 0, none⟩ = false := (kfro gh (cell_lt r0)).trans rz0; have R1 := kkeep gh r1; have Rz1 : wh.frozen? ⟨w.heap.size, 1, none⟩ = false := (kfro gh (cell_lt r1)).trans rz1; have R2 := kkeep gh r2; have Rz2 : wh.frozen? ⟨w.heap.size, 2, none⟩ = false := (kfro gh (cell_lt r2)).trans rz2; have R3 := kkeep gh r3; have Rz3 : wh.frozen? ⟨w.heap.size, 3, none⟩ = false := (kfro gh (cell_lt r3)).trans rz3; have R4 := kkeep gh r4; have Rz4 : wh.frozen? ⟨w.heap.size, 4, none⟩ = false := (kfro gh (cell_lt r4)).trans rz4; have R5 := kkeep gh r5; have Rz5 : wh.frozen? ⟨w.heap.size, 5, none⟩ = false := (kfro gh (cell_lt r5)).trans rz5; have R6 := kkeep gh r6; have Rz6 : wh.frozen? ⟨w.heap.size, 6, none⟩ = false := (kfro gh (cell_lt r6)).trans rz6; have R7 := kkeep gh r7; have Rz7 : wh.frozen? ⟨w.heap.size, 7, none⟩ = false := (kfro gh (cell_lt r7)).trans rz7; have R8 := kkeep gh r8; have Rz8 : wh.frozen? ⟨w.heap.size, 8, none⟩ = false := (kfro gh (cell_lt r8)).trans rz8) | (go_at_call 32; refine (fin0_ _).mono ?_; rintro e wl ⟨s, p, l, c, q, k, d, rfl, hp, gl⟩; have kl : Kp w wl := Kp.trans ((Kp.refl w).alloc _) gl; have r0 := kkeep gl (b := w.heap.size) (o := 0) (v := .bool false) (by simp [go_sem]); have rz0 : wl.frozen? ⟨w.heap.size, 0, none⟩ = false := (kfro gl (by simp <;> omega)).trans (by simp [go_sem]); have r1 := kkeep gl (b := w.heap.size) (o := 1) (v := .int .i64 0) (by simp [go_sem]); have rz1 : wl.frozen? ⟨w.heap.size, 1, none⟩ = false := (kfro gl (by simp <;> omega)).trans (by simp [go_sem]); have r2 := kkeep gl (b := w.heap.size) (o := 2) (v := .bool false) (by simp [go_sem]); have rz2 : wl.frozen? ⟨w.heap.size, 2, none⟩ = false := (kfro gl (by simp <;> omega)).trans (by simp [go_sem]); have r3 := kkeep gl (b := w.heap.size) (o := 3) (v := .slice none 0 0) (by simp [go_sem]); have rz3 : wl.frozen? ⟨w.heap.size, 3, none⟩ = false := (kfro gl (by simp <;> omega)).trans (by simp [go_sem]); have r4 := kkeep gl (b := w.heap.size) (o := 4) (v := .slice none 0 0) (by simp [go_sem]); have rz4 : wl.frozen? ⟨w.heap.size, 4, none⟩ = false := (kfro gl (by simp <;> omega)).trans (by simp [go_sem]); have r5 := kkeep gl (b := w.heap.size) (o := 5) (v := .int .i64 0) (by simp [go_sem]); have rz5 : wl.frozen? ⟨w.heap.size, 5, none⟩ = false := (kfro gl (by simp <;> omega)).trans (by simp [go_sem]); have r6 := kkeep gl (b := w.heap.size) (o := 6) (v := .bool false) (by simp [go_sem]); have rz6 : wl.frozen? ⟨w.heap.size, 6, none⟩ = false := (kfro gl (by simp <;> omega)).trans (by simp [go_sem]); have r7 := kkeep gl (b := w.heap.size) (o := 7) (v := .slice none 0 0) (by simp [go_sem]); have rz7 : wl.frozen? ⟨w.heap.size, 7, none⟩ = false := (kfro gl (by simp <;> omega)).trans (by simp [go_sem]); have r8 := kkeep gl (b := w.heap.size) (o := 8) (v := .slice none 0 0) (by simp [go_sem]); have rz8 : wl.frozen? ⟨w.heap.size, 8, none⟩ = false := (kfro gl (by simp <;> omega)).trans (by simp [go_sem])))
  exact bodyPost_ret (v := .agg #[.bool true, .int .i64 0, .bool s, .slice p l c, .slice q k d, .int .i64 0, .bool s2, .slice p2 l2 c2, .slice q2 k2 d2]) (by simp [results, Tryz.results27, go_sem, R0, R1, R2, R3, R4, R5, R6, R7, R8]) rfl ⟨s, p, l, c, q, k, d, s2, p2, l2, c2, q2, k2, d2, rfl, (((((((((kh).setCell (Nat.le_refl _) _).setCell (Nat.le_refl _) _).setCell (Nat.le_refl _) _).setCell (Nat.le_refl _) _).setCell (Nat.le_refl _) _).setCell (Nat.le_refl _) _).setCell (Nat.le_refl _) _).setCell (Nat.le_refl _) _).setCell (Nat.le_refl _) _⟩
set_option maxRecDepth 20000 in
set_option maxHeartbeats 2000000 in
theorem plusE1_ (i j i2 j2 : Int) (N2 : Bool) (s : Bool) (p : Option Addr) (l c : Nat) (q : Option Addr) (k d : Nat) (s2 : Bool) (p2 : Option Addr) (l2 c2 : Nat) (q2 : Option Addr) (k2 d2 : Nat) (s3 : Bool) (p3 : Option Addr) (l3 c3 : Nat) (q3 : Option Addr) (k3 d3 : Nat) (s4 : Bool) (p4 : Option Addr) (l4 c4 : Nat) (q4 : Option Addr) (k4 d4 : Nat) (w : World) : Calls Tryz.prog 16 #[.agg #[.bool true, .int .i64 i, .bool s, .slice p l c, .slice q k d, .int .i64 j, .bool s2, .slice p2 l2 c2, .slice q2 k2 d2], .agg #[.bool N2, .int .i64 i2, .bool s3, .slice p3 l3 c3, .slice q3 k3 d3, .int .i64 j2, .bool s4, .slice p4 l4 c4, .slice q4 k4 d4]] w fun e w' => ∃ (s5 : Bool) (p5 : Option Addr) (l5 c5 : Nat) (q5 : Option Addr) (k5 d5 : Nat) (s6 : Bool) (p6 : Option Addr) (l6 c6 : Nat) (q6 : Option Addr) (k6 d6 : Nat), e = .returned (.agg #[.bool true, .int .i64 0, .bool s5, .slice p5 l5 c5, .slice q5 k5 d5, .int .i64 0, .bool s6, .slice p6 l6 c6, .slice q6 k6 d6]) ∧ Kp w w' := by
  go_enter Tryz.func16, Tryz.ntmps16
  go_wp2_with (first | (go_at_call 27; refine (none6_ _).mono ?_; rintro e w1 ⟨s5, p5, l5, c5, q5, k5, d5, s6, p6, l6, c6, q6, k6, d6, rfl, g1⟩; have r0 := kkeep g1 (b := w.heap.size + 2) (o := 0) (v := .bool false) (by simp [go_sem]); have rz0 : w1.frozen? ⟨w.heap.size + 2, 0, none⟩ = false := (kfro g1 (by simp <;> omega)).trans (by simp [go_sem]); have r1 := kkeep g1 (b := w.heap.size + 2) (o := 1) (v := .int .i64 0) (by simp [go_sem]); have rz1 : w1.frozen? ⟨w.heap.size + 2, 1, none⟩ = false := (kfro g1 (by simp <;> omega)).trans (by simp [go_sem]); have r2 := kkeep g1 (b := w.heap.size + 2) (o := 2) (v := .bool false) (by simp [go_sem]); have rz2 : w1.frozen? ⟨w.heap.size + 2, 2, none⟩ = false := (kfro g1 (by simp <;> omega)).trans (by simp [go_sem]); have r3 := kkeep g1 (b := w.heap.size + 2) (o := 3) (v := .slice none 0 0) (by simp [go_sem]); have rz3 : w1.frozen? ⟨w.heap.size + 2, 3, none⟩ = false := (kfro g1 (by simp <;> omega)).trans (by simp [go_sem]); have r4 := kkeep g1 (b := w.heap.size + 2) (o := 4) (v := .slice none 0 0) (by simp [go_sem]); have rz4 : w1.frozen? ⟨w.heap.size + 2, 4, none⟩ = false := (kfro g1 (by simp <;> omega)).trans (by simp [go_sem]); have r5 := kkeep g1 (b := w.heap.size + 2) (o := 5) (v := .int .i64 0) (by simp [go_sem]); have rz5 : w1.frozen? ⟨w.heap.size + 2, 5, none⟩ = false := (kfro g1 (by simp <;> omega)).trans (by simp [go_sem]); have r6 := kkeep g1 (b := w.heap.size + 2) (o := 6) (v := .bool false) (by simp [go_sem]); have rz6 : w1.frozen? ⟨w.heap.size + 2, 6, none⟩ = false := (kfro g1 (by simp <;> omega)).trans (by simp [go_sem]); have r7 := kkeep g1 (b := w.heap.size + 2) (o := 7) (v := .slice none 0 0) (by simp [go_sem]); have rz7 : w1.frozen? ⟨w.heap.size + 2, 7, none⟩ = false := (kfro g1 (by simp <;> omega)).trans (by simp [go_sem]); have r8 := kkeep g1 (b := w.heap.size + 2) (o := 8) (v := .slice none 0 0) (by simp [go_sem]); have rz8 : w1.frozen? ⟨w.heap.size + 2, 8, none⟩ = false := (kfro g1 (by simp <;> omega)).trans (by simp [go_sem])))
  exact bodyPost_ret (v := .agg #[.bool true, .int .i64 0, .bool s5, .slice p5 l5 c5, .slice q5 k5 d5, .int .i64 0, .bool s6, .slice p6 l6 c6, .slice q6 k6 d6]) (by simp [results, Tryz.results16, go_sem, r0, r1, r2, r3, r4, r5, r6, r7, r8]) rfl ⟨s5, p5, l5, c5, q5, k5, d5, s6, p6, l6, c6, q6, k6, d6, rfl, ((((((((((Kp.trans ((((Kp.refl w).alloc _).alloc _).alloc _) g1)).setCell (by simp <;> omega) _).setCell (by simp <;> omega) _).setCell (by simp <;> omega) _).setCell (by simp <;> omega) _).setCell (by simp <;> omega) _).setCell (by simp <;> omega) _).setCell (by simp <;> omega) _).setCell (by simp <;> omega) _).setCell (by simp <;> omega) _⟩
set_option maxRecDepth 20000 in
set_option maxHeartbeats 2000000 in
theorem plusE2_ (i j i2 j2 : Int) (s : Bool) (p : Option Addr) (l c : Nat) (q : Option Addr) (k d : Nat) (s2 : Bool) (p2 : Option Addr) (l2 c2 : Nat) (q2 : Option Addr) (k2 d2 : Nat) (s3 : Bool) (p3 : Option Addr) (l3 c3 : Nat) (q3 : Option Addr) (k3 d3 : Nat) (s4 : Bool) (p4 : Option Addr) (l4 c4 : Nat) (q4 : Option Addr) (k4 d4 : Nat) (w : World) : Calls Tryz.prog 16 #[.agg #[.bool false, .int .i64 i, .bool s, .slice p l c, .slice q k d, .int .i64 j, .bool s2, .slice p2 l2 c2, .slice q2 k2 d2], .agg #[.bool true, .int .i64 i2, .bool s3, .slice p3 l3 c3, .slice q3 k3 d3, .int .i64 j2, .bool s4, .slice p4 l4 c4, .slice q4 k4 d4]] w fun e w' => ∃ (s5 : Bool) (p5 : Option Addr) (l5 c5 : Nat) (q5 : Option Addr) (k5 d5 : Nat) (s6 : Bool) (p6 : Option Addr) (l6 c6 : Nat) (q6 : Option Addr) (k6 d6 : Nat), e = .returned (.agg #[.bool true, .int .i64 0, .bool s5, .slice p5 l5 c5, .slice q5 k5 d5, .int .i64 0, .bool s6, .slice p6 l6 c6, .slice q6 k6 d6]) ∧ Kp w w' := by
  go_enter Tryz.func16, Tryz.ntmps16
  go_wp2_with (first | (go_at_call 27; refine (none6_ _).mono ?_; rintro e w1 ⟨s5, p5, l5, c5, q5, k5, d5, s6, p6, l6, c6, q6, k6, d6, rfl, g1⟩; have r0 := kkeep g1 (b := w.heap.size + 2) (o := 0) (v := .bool false) (by simp [go_sem]); have rz0 : w1.frozen? ⟨w.heap.size + 2, 0, none⟩ = false := (kfro g1 (by simp <;> omega)).trans (by simp [go_sem]); have r1 := kkeep g1 (b := w.heap.size + 2) (o := 1) (v := .int .i64 0) (by simp [go_sem]); have rz1 : w1.frozen? ⟨w.heap.size + 2, 1, none⟩ = false := (kfro g1 (by simp <;> omega)).trans (by simp [go_sem]); have r2 := kkeep g1 (b := w.heap.size + 2) (o := 2) (v := .bool false) (by simp [go_sem]); have rz2 : w1.frozen? ⟨w.heap.size + 2, 2, none⟩ = false := (kfro g1 (by simp <;> omega)).trans (by simp [go_sem]); have r3 := kkeep g1 (b := w.heap.size + 2) (o := 3) (v := .slice none 0 0) (by simp [go_sem]); have rz3 : w1.frozen? ⟨w.heap.size + 2, 3, none⟩ = false := (kfro g1 (by simp <;> omega)).trans (by simp [go_sem]); have r4 := kkeep g1 (b := w.heap.size + 2) (o := 4) (v := .slice none 0 0) (by simp [go_sem]); have rz4 : w1.frozen? ⟨w.heap.size + 2, 4, none⟩ = false := (kfro g1 (by simp <;> omega)).trans (by simp [go_sem]); have r5 := kkeep g1 (b := w.heap.size + 2) (o := 5) (v := .int .i64 0) (by simp [go_sem]); have rz5 : w1.frozen? ⟨w.heap.size + 2, 5, none⟩ = false := (kfro g1 (by simp <;> omega)).trans (by simp [go_sem]); have r6 := kkeep g1 (b := w.heap.size + 2) (o := 6) (v := .bool false) (by simp [go_sem]); have rz6 : w1.frozen? ⟨w.heap.size + 2, 6, none⟩ = false := (kfro g1 (by simp <;> omega)).trans (by simp [go_sem]); have r7 := kkeep g1 (b := w.heap.size + 2) (o := 7) (v := .slice none 0 0) (by simp [go_sem]); have rz7 : w1.frozen? ⟨w.heap.size + 2, 7, none⟩ = false := (kfro g1 (by simp <;> omega)).trans (by simp [go_sem]); have r8 := kkeep g1 (b := w.heap.size + 2) (o := 8) (v := .slice none 0 0) (by simp [go_sem]); have rz8 : w1.frozen? ⟨w.heap.size + 2, 8, none⟩ = false := (kfro g1 (by simp <;> omega)).trans (by simp [go_sem])))
  exact bodyPost_ret (v := .agg #[.bool true, .int .i64 0, .bool s5, .slice p5 l5 c5, .slice q5 k5 d5, .int .i64 0, .bool s6, .slice p6 l6 c6, .slice q6 k6 d6]) (by simp [results, Tryz.results16, go_sem, r0, r1, r2, r3, r4, r5, r6, r7, r8]) rfl ⟨s5, p5, l5, c5, q5, k5, d5, s6, p6, l6, c6, q6, k6, d6, rfl, ((((((((((Kp.trans ((((Kp.refl w).alloc _).alloc _).alloc _) g1)).setCell (by simp <;> omega) _).setCell (by simp <;> omega) _).setCell (by simp <;> omega) _).setCell (by simp <;> omega) _).setCell (by simp <;> omega) _).setCell (by simp <;> omega) _).setCell (by simp <;> omega) _).setCell (by simp <;> omega) _).setCell (by simp <;> omega) _⟩
theorem leastP_ (i j : Int) (ZA ZB : Int → Nat) (s : Bool) (p : Option Addr) (l c : Nat) (q : Option Addr) (k d : Nat) (s2 : Bool) (p2 : Option Addr) (l2 c2 : Nat) (q2 : Option Addr) (k2 d2 : Nat) (B1 B2 : Nat) (w : World) (h1 : i = 0 → QP B1 w s p l c q k d ZA) (h2 : j = 0 → QP B2 w s2 p2 l2 c2 q2 k2 d2 ZB) : Calls Tryz.prog 15 #[.agg #[.bool false, .int .i64 i, .bool s, .slice p l c, .slice q k d, .int .i64 j, .bool s2, .slice p2 l2 c2, .slice q2 k2 d2]] w fun e w' => e = .returned (.agg #[.int .u64 ((if i = 0 then ZA (-1) else 18442240474082181120 : Nat) : Int), .int .u64 ((if j = 0 then ZB 1 else 9218868437227405312 : Nat) : Int)]) ∧ Kp w w' := by
  by_cases e1 : i = 0
  · have g1 := h1 e1
    rw [if_pos e1]
    by_cases e2 : j = 0
    · have g2 := h2 e2
      rw [if_pos e2]
      subst e1 e2
      exact leastFF_ _ _ s p l c q k d s2 p2 l2 c2 q2 k2 d2 w (fun W g => qbits_ s p l c q k d ZA (-1) B1 W (g1.kp g)) (fun W g => qbits_ s2 p2 l2 c2 q2 k2 d2 ZB 1 B2 W (g2.kp g))
    · rw [if_neg e2]
      subst e1
      exact leastFN_ _ j (by simpa using e2) s p l c q k d s2 p2 l2 c2 q2 k2 d2 w (fun W g => qbits_ s p l c q k d ZA (-1) B1 W (g1.kp g))
  · rw [if_neg e1]
    by_cases e2 : j = 0
    · have g2 := h2 e2
      rw [if_pos e2]
      subst e2
      exact leastNF_ i (by simpa using e1) _ s p l c q k d s2 p2 l2 c2 q2 k2 d2 w (fun W g => qbits_ s2 p2 l2 c2 q2 k2 d2 ZB 1 B2 W (g2.kp g))
    · rw [if_neg e2]
      exact leastNN_ i (by simpa using e1) j (by simpa using e2) s p l c q k d s2 p2 l2 c2 q2 k2 d2 w
theorem leastN_ (W : World) (v : Value) (h : SV0 true v) : Calls Tryz.prog 15 #[v] W fun e w' => e = .returned (.agg #[.int .u64 9218868437227405312, .int .u64 18442240474082181120]) ∧ Kp W w' := by
  obtain ⟨i, j, s, p, l, c, q, k, d, s2, p2, l2, c2, q2, k2, d2, rfl⟩ := h
  exact leastE_ i j s p l c q k d s2 p2 l2 c2 q2 k2 d2 W
theorem plusX_ (N M : Bool) (hNM : N = true ∨ M = true) (W : World) (u v : Value) (h1 : SV0 N u) (h2 : SV0 M v) : Calls Tryz.prog 16 #[u, v] W fun e w' => ∃ v', e = .returned v' ∧ SV0 true v' ∧ Kp W w' := by
  obtain ⟨i, j, s, p, l, c, q, k, d, s2, p2, l2, c2, q2, k2, d2, rfl⟩ := h1
  obtain ⟨i2, j2, s3, p3, l3, c3, q3, k3, d3, s4, p4, l4, c4, q4, k4, d4, rfl⟩ := h2
  cases N
  · have hM : M = true := by simpa using hNM
    subst hM
    refine (plusE2_ i j i2 j2 s p l c q k d s2 p2 l2 c2 q2 k2 d2 s3 p3 l3 c3 q3 k3 d3 s4 p4 l4 c4 q4 k4 d4 W).mono ?_
    rintro e w' ⟨s5, p5, l5, c5, q5, k5, d5, s6, p6, l6, c6, q6, k6, d6, rfl, g⟩
    exact ⟨_, rfl, ⟨0, 0, s5, p5, l5, c5, q5, k5, d5, s6, p6, l6, c6, q6, k6, d6, rfl⟩, g⟩
  · refine (plusE1_ i j i2 j2 M s p l c q k d s2 p2 l2 c2 q2 k2 d2 s3 p3 l3 c3 q3 k3 d3 s4 p4 l4 c4 q4 k4 d4 W).mono ?_
    rintro e w' ⟨s5, p5, l5, c5, q5, k5, d5, s6, p6, l6, c6, q6, k6, d6, rfl, g⟩
    exact ⟨_, rfl, ⟨0, 0, s5, p5, l5, c5, q5, k5, d5, s6, p6, l6, c6, q6, k6, d6, rfl⟩, g⟩
theorem of0_ (a b : Nat) (ha : a < 18446744073709551616) (hb : b < 18446744073709551616) (w : World) : Calls Tryz.prog 17 #[.agg #[.int .u64 ((a : Nat) : Int), .int .u64 ((b : Nat) : Int)]] w fun e w' => ∃ v, e = .returned v ∧ SV0 (!(Fq.snd a b)) v ∧ Kp w w' := by
  by_cases hs : Fq.snd a b = true
  · obtain ⟨n, m, hm, e1⟩ := rlo_w a b ha hb
    obtain ⟨n', m', hm', e2⟩ := rhi_w a b ha hb
    refine (ofSound_ a b ha hb hs n n' m m' hm hm' e1 e2 w).mono ?_
    rintro e w' ⟨v, rfl, h, g⟩
    rw [hs]
    exact ⟨v, rfl, h.sv0, g⟩
  · have hs : Fq.snd a b = false := by simpa using hs
    rw [hs]
    exact ofEmpty_ a b ha hb hs w
end Go.Proofs.YtmgfbalhgfkibaaGreatDoor
