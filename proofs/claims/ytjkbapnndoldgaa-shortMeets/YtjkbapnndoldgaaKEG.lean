import Derived.Test.YtjkbapnndoldgaaKEX
import Derived.Test.YtjkbapnndoldgaaKEY
namespace Go.Proofs.Ytjkbapnndoldgaa
open Go.RowKit

def SV0 (N : Bool) (v : Value) : Prop := ∃ (i j : Int) (s : Bool) (p : Option Addr) (l c : Nat) (q : Option Addr) (k d : Nat) (s2 : Bool) (p2 : Option Addr) (l2 c2 : Nat) (q2 : Option Addr) (k2 d2 : Nat), v = .agg #[.bool N, .int .i64 i, .bool s, .slice p l c, .slice q k d, .int .i64 j, .bool s2, .slice p2 l2 c2, .slice q2 k2 d2]
def SV1 (n : Bool) (m : Nat) (n' : Bool) (m' : Nat) (W : World) (v : Value) : Prop := ∃ (s : Bool) (p : Option Addr) (l c : Nat) (q : Option Addr) (k d : Nat) (s2 : Bool) (p2 : Option Addr) (l2 c2 : Nat) (q2 : Option Addr) (k2 d2 : Nat), v = .agg #[.bool false, .int .i64 (infS n m), .bool s, .slice p l c, .slice q k d, .int .i64 (infS n' m'), .bool s2, .slice p2 l2 c2, .slice q2 k2 d2] ∧ RP 0 W s p l c q k d (fN n m) (fM m) ∧ RP 0 W s2 p2 l2 c2 q2 k2 d2 (fN n' m') (fM m')
theorem SV1.sv0 {n : Bool} {m : Nat} {n' : Bool} {m' : Nat} {W : World} {v : Value} (h : SV1 n m n' m' W v) : SV0 false v := by
  obtain ⟨s, p, l, c, q, k, d, s2, p2, l2, c2, q2, k2, d2, e, -, -⟩ := h
  exact ⟨_, _, s, p, l, c, q, k, d, s2, p2, l2, c2, q2, k2, d2, e⟩
theorem SV1.kp {n : Bool} {m : Nat} {n' : Bool} {m' : Nat} {W W' : World} {v : Value} (g : Kp W W') (h : SV1 n m n' m' W v) : SV1 n m n' m' W' v := by
  obtain ⟨s, p, l, c, q, k, d, s2, p2, l2, c2, q2, k2, d2, e, h1, h2⟩ := h
  exact ⟨s, p, l, c, q, k, d, s2, p2, l2, c2, q2, k2, d2, e, h1.kp g, h2.kp g⟩
theorem pla_ne (x : Nat) : Fq.pla x ≠ 9223372036854775808 := by unfold Fq.pla; split <;> omega
theorem rlo_ne (a b : Nat) : Fq.rlo a b ≠ 9223372036854775808 := by
  unfold Fq.rlo
  split
  · exact pla_ne a
  · decide
theorem rhi_ne (a b : Nat) : Fq.rhi a b ≠ 9223372036854775808 := by
  unfold Fq.rhi
  split
  · exact pla_ne b
  · decide
theorem ofEmpty_ (a b : Nat) (ha : a < 18446744073709551616) (hb : b < 18446744073709551616) (hs : Fq.snd a b = false) (w : World) : Calls Try.prog 54 #[.agg #[.int .u64 ((a : Nat) : Int), .int .u64 ((b : Nat) : Int)]] w fun e w' => ∃ v, e = .returned v ∧ SV0 true v ∧ Kp w w' := by
  have hr : ∀ w : World, Calls Try.prog 34 #[.agg #[.int .u64 ((a : Nat) : Int), .int .u64 ((b : Nat) : Int)]] w fun e w' => e = .returned (.agg #[.int .u64 9218868437227405312, .int .u64 18442240474082181120]) ∧ Kp w w' := by
    obtain ⟨n, m, hm, rfl⟩ := Fq.exD a ha
    obtain ⟨n', m', hm', rfl⟩ := Fq.exD b hb
    intro w
    have h := Fq.rread_ n n' m m' hm hm' w
    rw [show Fq.rlo (Fq.wD n m) (Fq.wD n' m') = 9218868437227405312 from by simp [Fq.rlo, hs], show Fq.rhi (Fq.wD n m) (Fq.wD n' m') = 18442240474082181120 from by simp [Fq.rhi, hs]] at h
    exact h
  refine (ofE_ _ _ hr w).mono ?_
  rintro e w' ⟨s, p, l, c, q, k, d, s2, p2, l2, c2, q2, k2, d2, rfl, -, -, g⟩
  exact ⟨_, rfl, ⟨0, 0, s, p, l, c, q, k, d, s2, p2, l2, c2, q2, k2, d2, rfl⟩, g⟩
theorem ofSound_ (a b : Nat) (ha : a < 18446744073709551616) (hb : b < 18446744073709551616) (hs : Fq.snd a b = true) (n n' : Bool) (m m' : Nat) (hm : m ≤ 9218868437227405312) (hm' : m' ≤ 9218868437227405312) (e1 : Fq.rlo a b = Fq.wD n m) (e2 : Fq.rhi a b = Fq.wD n' m') (w : World) : Calls Try.prog 54 #[.agg #[.int .u64 ((a : Nat) : Int), .int .u64 ((b : Nat) : Int)]] w fun e w' => ∃ v, e = .returned v ∧ SV1 n m n' m' w' v ∧ Kp w w' := by
  have hr : ∀ w : World, Calls Try.prog 34 #[.agg #[.int .u64 ((a : Nat) : Int), .int .u64 ((b : Nat) : Int)]] w fun e w' => e = .returned (.agg #[.int .u64 ((Fq.wD n m : Nat) : Int), .int .u64 ((Fq.wD n' m' : Nat) : Int)]) ∧ Kp w w' := by
    rw [← e1, ← e2]
    obtain ⟨n, m, hm, rfl⟩ := Fq.exD a ha
    obtain ⟨n', m', hm', rfl⟩ := Fq.exD b hb
    exact fun w => Fq.rread_ n n' m m' hm hm' w
  have t1 : (((Fq.wD n m : Nat) : Int) == 9218868437227405312) = false := by
    have h1 : Fq.rlo a b ≠ 9218868437227405312 := by
      have h2 : a ≠ 9218868437227405312 := by intro h; rw [h] at hs; simp [Fq.snd] at hs
      simp only [Fq.rlo, hs, if_true, Fq.pla]; split <;> omega
    rw [e1] at h1
    simp; omega
  refine (ofS_ _ _ _ _ _ _ _ _ _ _ hr (bound_ n m hm (e1 ▸ rlo_ne a b)) (bound_ n' m' hm' (e2 ▸ rhi_ne a b)) t1 w).mono ?_
  rintro e w' ⟨s, p, l, c, q, k, d, s2, p2, l2, c2, q2, k2, d2, rfl, h1, h2, g⟩
  exact ⟨_, rfl, ⟨s, p, l, c, q, k, d, s2, p2, l2, c2, q2, k2, d2, rfl, h1.mono (Nat.zero_le _), h2.mono (Nat.zero_le _)⟩, g⟩
theorem leastP_ (i j : Int) (ZA ZB : Int → Nat) (s : Bool) (p : Option Addr) (l c : Nat) (q : Option Addr) (k d : Nat) (s2 : Bool) (p2 : Option Addr) (l2 c2 : Nat) (q2 : Option Addr) (k2 d2 : Nat) (B1 B2 : Nat) (w : World) (h1 : i = 0 → QP B1 w s p l c q k d ZA) (h2 : j = 0 → QP B2 w s2 p2 l2 c2 q2 k2 d2 ZB) : Calls Try.prog 52 #[.agg #[.bool false, .int .i64 i, .bool s, .slice p l c, .slice q k d, .int .i64 j, .bool s2, .slice p2 l2 c2, .slice q2 k2 d2]] w fun e w' => e = .returned (.agg #[.int .u64 ((if i = 0 then ZA (-1) else 18442240474082181120 : Nat) : Int), .int .u64 ((if j = 0 then ZB 1 else 9218868437227405312 : Nat) : Int)]) ∧ Kp w w' := by
  by_cases e1 : i = 0
  · have g1 := h1 e1
    rw [if_pos e1]
    by_cases e2 : j = 0
    · have g2 := h2 e2
      rw [if_pos e2]
      subst e1 e2
      exact leastFF_ _ _ s p l c q k d s2 p2 l2 c2 q2 k2 d2 w (fun W g => qbits_ s p l c q k d ZA (-1) B1 W (g1.kp g)) (fun W g => qbits_ s2 p2 l2 c2 q2 k2 d2 ZB 1 B2 W (g2.kp g))
    · rw [if_neg e2]
      subst e1
      exact leastFN_ _ j (by simpa using e2) s p l c q k d s2 p2 l2 c2 q2 k2 d2 w (fun W g => qbits_ s p l c q k d ZA (-1) B1 W (g1.kp g))
  · rw [if_neg e1]
    by_cases e2 : j = 0
    · have g2 := h2 e2
      rw [if_pos e2]
      subst e2
      exact leastNF_ i (by simpa using e1) _ s p l c q k d s2 p2 l2 c2 q2 k2 d2 w (fun W g => qbits_ s2 p2 l2 c2 q2 k2 d2 ZB 1 B2 W (g2.kp g))
    · rw [if_neg e2]
      exact leastNN_ i (by simpa using e1) j (by simpa using e2) s p l c q k d s2 p2 l2 c2 q2 k2 d2 w
theorem infS_zero (n : Bool) (m : Nat) : infS n m = 0 ↔ m ≠ 9218868437227405312 := by
  unfold infS
  by_cases c : m = 9218868437227405312
  · rw [if_pos c]; cases n <;> simp [c]
  · rw [if_neg c]; simp [c]
theorem leastN_ (W : World) (v : Value) (h : SV0 true v) : Calls Try.prog 52 #[v] W fun e w' => e = .returned (.agg #[.int .u64 9218868437227405312, .int .u64 18442240474082181120]) ∧ Kp W w' := by
  obtain ⟨i, j, s, p, l, c, q, k, d, s2, p2, l2, c2, q2, k2, d2, rfl⟩ := h
  exact leastE_ i j s p l c q k d s2 p2 l2 c2 q2 k2 d2 W
theorem leastV_ (n g : Bool) (m r : Nat) (hm : m ≤ 9218868437227405312) (hr : r ≤ 9218868437227405312) (i1 : m = 9218868437227405312 → n = true) (i2 : r = 9218868437227405312 → g = false) (W : World) (v : Value) (h : SV1 n m g r W v) : Calls Try.prog 52 #[v] W fun e w' => e = .returned (.agg #[.int .u64 ((Fq.pla (Fq.wD n m) : Nat) : Int), .int .u64 ((Fq.pla (Fq.wD g r) : Nat) : Int)]) ∧ Kp W w' := by
  obtain ⟨s, p, l, c, q, k, d, s2, p2, l2, c2, q2, k2, d2, rfl, x1, x2⟩ := h
  have h := leastP_ (infS n m) (infS g r) _ _ s p l c q k d s2 p2 l2 c2 q2 k2 d2 0 0 W (fun _ => x1.qp) (fun _ => x2.qp)
  have e1 : (if infS n m = 0 then sumW (-1) (Iv (fN n m) (fM m)) else 18442240474082181120) = Fq.pla (Fq.wD n m) := by
    by_cases c0 : m = 9218868437227405312
    · rw [if_neg (by rw [infS_zero]; simp [c0]), i1 c0, c0]; decide +kernel
    · rw [if_pos (by rw [infS_zero]; exact c0)]
      unfold fN fM
      rw [if_neg c0, if_neg c0]
      exact sumW_exact (-1) n m (by omega)
  have e2 : (if infS g r = 0 then sumW 1 (Iv (fN g r) (fM r)) else 9218868437227405312) = Fq.pla (Fq.wD g r) := by
    by_cases c0 : r = 9218868437227405312
    · rw [if_neg (by rw [infS_zero]; simp [c0]), i2 c0, c0]; decide +kernel
    · rw [if_pos (by rw [infS_zero]; exact c0)]
      unfold fN fM
      rw [if_neg c0, if_neg c0]
      exact sumW_exact 1 g r (by omega)
  rw [e1, e2] at h
  exact h
end Go.Proofs.Ytjkbapnndoldgaa
