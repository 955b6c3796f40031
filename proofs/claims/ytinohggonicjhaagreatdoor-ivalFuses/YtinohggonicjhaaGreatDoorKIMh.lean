import Derived.Test.YtinohggonicjhaaGreatDoorKFFr
namespace Go.Proofs.YtinohggonicjhaaGreatDoor
open Go.RowKit

def H9c (w : World) (b : Nat) (v0 v1 v2 v3 v4 v5 v6 v7 v8 : Value) : Prop := w.cell? ⟨b, 0, none⟩ = some v0 ∧ w.cell? ⟨b, 1, none⟩ = some v1 ∧ w.cell? ⟨b, 2, none⟩ = some v2 ∧ w.cell? ⟨b, 3, none⟩ = some v3 ∧ w.cell? ⟨b, 4, none⟩ = some v4 ∧ w.cell? ⟨b, 5, none⟩ = some v5 ∧ w.cell? ⟨b, 6, none⟩ = some v6 ∧ w.cell? ⟨b, 7, none⟩ = some v7 ∧ w.cell? ⟨b, 8, none⟩ = some v8 ∧ w.frozen? ⟨b, 0, none⟩ = false ∧ w.frozen? ⟨b, 1, none⟩ = false ∧ w.frozen? ⟨b, 2, none⟩ = false ∧ w.frozen? ⟨b, 3, none⟩ = false ∧ w.frozen? ⟨b, 4, none⟩ = false ∧ w.frozen? ⟨b, 5, none⟩ = false ∧ w.frozen? ⟨b, 6, none⟩ = false ∧ w.frozen? ⟨b, 7, none⟩ = false ∧ w.frozen? ⟨b, 8, none⟩ = false
theorem H9c.keep {W w : World} {b : Nat} {v0 v1 v2 v3 v4 v5 v6 v7 v8 : Value} (h : H9c W b v0 v1 v2 v3 v4 v5 v6 v7 v8) (g : Kp W w) : H9c w b v0 v1 v2 v3 v4 v5 v6 v7 v8 := by
  obtain ⟨h0, h1, h2, h3, h4, h5, h6, h7, h8, h9, h10, h11, h12, h13, h14, h15, h16, h17⟩ := h
  exact ⟨kkeep g h0, kkeep g h1, kkeep g h2, kkeep g h3, kkeep g h4, kkeep g h5, kkeep g h6, kkeep g h7, kkeep g h8, (kfro g (cell_lt h0)).trans h9, (kfro g (cell_lt h0)).trans h10, (kfro g (cell_lt h0)).trans h11, (kfro g (cell_lt h0)).trans h12, (kfro g (cell_lt h0)).trans h13, (kfro g (cell_lt h0)).trans h14, (kfro g (cell_lt h0)).trans h15, (kfro g (cell_lt h0)).trans h16, (kfro g (cell_lt h0)).trans h17⟩
theorem H9c.new (w : World) (v0 v1 v2 v3 v4 v5 v6 v7 v8 : Value) (t : TypeId) : H9c (w.alloc (.cells #[v0, v1, v2, v3, v4, v5, v6, v7, v8] t)) w.heap.size v0 v1 v2 v3 v4 v5 v6 v7 v8 := by
  unfold H9c; simp [go_sem]
theorem H9c.lt {w : World} {b : Nat} {v0 v1 v2 v3 v4 v5 v6 v7 v8 : Value} (h : H9c w b v0 v1 v2 v3 v4 v5 v6 v7 v8) : b < w.heap.size := cell_lt h.1
set_option maxRecDepth 20000 in
set_option maxHeartbeats 1000000 in
theorem H9c.put {w : World} {b : Nat} {v0 v1 v2 v3 v4 v5 v6 v7 v8 : Value} (h : H9c w b v0 v1 v2 v3 v4 v5 v6 v7 v8) (u0 u1 u2 u3 u4 u5 u6 u7 u8 : Value) : H9c ((((((((((w.setCell ⟨b, 0, none⟩ u0).setCell ⟨b, 1, none⟩ u1).setCell ⟨b, 2, none⟩ u2).setCell ⟨b, 3, none⟩ u3).setCell ⟨b, 4, none⟩ u4).setCell ⟨b, 5, none⟩ u5).setCell ⟨b, 6, none⟩ u6).setCell ⟨b, 7, none⟩ u7).setCell ⟨b, 8, none⟩ u8)) b u0 u1 u2 u3 u4 u5 u6 u7 u8 := by
  obtain ⟨h0, h1, h2, h3, h4, h5, h6, h7, h8, h9, h10, h11, h12, h13, h14, h15, h16, h17⟩ := h
  unfold H9c; simp [go_sem, h0, h1, h2, h3, h4, h5, h6, h7, h8, h9, h10, h11, h12, h13, h14, h15, h16, h17]
theorem H9c.far1 {w : World} {b : Nat} {v0 v1 v2 v3 v4 v5 v6 v7 v8 : Value} (h : H9c w b v0 v1 v2 v3 v4 v5 v6 v7 v8) (x : Addr) (hne : x.block ≠ b) (u : Value) : H9c (w.setCell x u) b v0 v1 v2 v3 v4 v5 v6 v7 v8 := by
  obtain ⟨h0, h1, h2, h3, h4, h5, h6, h7, h8, h9, h10, h11, h12, h13, h14, h15, h16, h17⟩ := h
  exact ⟨(World.cell?_setCell_far _ _ _ _ hne).trans h0, (World.cell?_setCell_far _ _ _ _ hne).trans h1, (World.cell?_setCell_far _ _ _ _ hne).trans h2, (World.cell?_setCell_far _ _ _ _ hne).trans h3, (World.cell?_setCell_far _ _ _ _ hne).trans h4, (World.cell?_setCell_far _ _ _ _ hne).trans h5, (World.cell?_setCell_far _ _ _ _ hne).trans h6, (World.cell?_setCell_far _ _ _ _ hne).trans h7, (World.cell?_setCell_far _ _ _ _ hne).trans h8, (World.frozen?_setCell _ _ _ _).trans h9, (World.frozen?_setCell _ _ _ _).trans h10, (World.frozen?_setCell _ _ _ _).trans h11, (World.frozen?_setCell _ _ _ _).trans h12, (World.frozen?_setCell _ _ _ _).trans h13, (World.frozen?_setCell _ _ _ _).trans h14, (World.frozen?_setCell _ _ _ _).trans h15, (World.frozen?_setCell _ _ _ _).trans h16, (World.frozen?_setCell _ _ _ _).trans h17⟩
theorem cmI_scale (x y k : Int) (hk : 0 < k) : cmI (x * k) (y * k) = cmI x y := by
  unfold cmI
  have e1 : x * k < y * k ↔ x < y := ⟨fun h => Int.lt_of_mul_lt_mul_right h (Int.le_of_lt hk), fun h => Int.mul_lt_mul_of_pos_right h hk⟩
  have e2 : y * k < x * k ↔ y < x := ⟨fun h => Int.lt_of_mul_lt_mul_right h (Int.le_of_lt hk), fun h => Int.mul_lt_mul_of_pos_right h hk⟩
  simp only [e1, e2]
theorem frac_ratio (x D a b : Nat) (hD : D ≠ 0) (hF : FracOf x D 0 a b) : a * D = x * b := by
  have hb := hF.1
  by_cases c0 : x = 0
  · rw [hF.2.1.2 c0, c0, Nat.zero_mul, Nat.zero_mul]
  · have hfl : ∀ t : Nat, a * 2 ^ t / b = x * 2 ^ t / D := fun t => by
      have h := hF.2.2.1 (-1) (blen (a * 2 ^ t / b) + blen (x * 2 ^ t / D)) (t : Int) c0
      unfold rV at h
      rw [show ((t : Int)).toNat = t from by omega, show (-(t : Int)).toNat = 0 from by omega, show ((t : Int) + 0).toNat = t from by omega, show (-((t : Int) + 0)).toNat = 0 from by omega, Nat.pow_zero, Nat.mul_one, Nat.mul_one, rU_floor _ _ _ (by omega), rU_floor _ _ _ (by omega)] at h
      exact h
    obtain ⟨t, ht⟩ : ∃ t, b * D < 2 ^ t := ⟨b * D, Nat.lt_two_pow_self⟩
    have h := hfl t
    obtain ⟨f, hf⟩ : ∃ f, f = a * 2 ^ t / b := ⟨_, rfl⟩
    have f1 : f * b ≤ a * 2 ^ t := by rw [hf]; exact Nat.div_mul_le_self _ _
    have f2 : a * 2 ^ t < (f + 1) * b := by rw [hf]; exact Nat.lt_mul_of_div_lt (Nat.lt_succ_self _) (by omega)
    have f3 : f * D ≤ x * 2 ^ t := by rw [hf, h]; exact Nat.div_mul_le_self _ _
    have f4 : x * 2 ^ t < (f + 1) * D := by rw [hf, h]; exact Nat.lt_mul_of_div_lt (Nat.lt_succ_self _) (by omega)
    have g1 := Nat.mul_le_mul_right D f1
    have g2 := Nat.mul_lt_mul_of_pos_right f2 (show 0 < D by omega)
    have g3 := Nat.mul_le_mul_right b f3
    have g4 := Nat.mul_lt_mul_of_pos_right f4 (show 0 < b by omega)
    rw [show f * b * D = f * (b * D) from Nat.mul_assoc _ _ _, show a * 2 ^ t * D = a * D * 2 ^ t from Nat.mul_right_comm _ _ _] at g1
    rw [show (f + 1) * b * D = f * (b * D) + b * D from by rw [Nat.mul_assoc, Nat.add_mul, Nat.one_mul], show a * 2 ^ t * D = a * D * 2 ^ t from Nat.mul_right_comm _ _ _] at g2
    rw [show f * D * b = f * (b * D) from by rw [Nat.mul_assoc, Nat.mul_comm D b], show x * 2 ^ t * b = x * b * 2 ^ t from Nat.mul_right_comm _ _ _] at g3
    rw [show (f + 1) * D * b = f * (b * D) + b * D from by rw [Nat.mul_assoc, Nat.mul_comm D b, Nat.add_mul, Nat.one_mul], show x * 2 ^ t * b = x * b * 2 ^ t from Nat.mul_right_comm _ _ _] at g4
    rcases Nat.lt_trichotomy (a * D) (x * b) with c | c | c
    · exfalso
      have h5 := Nat.mul_le_mul_right (2 ^ t) (show a * D + 1 ≤ x * b from c)
      rw [Nat.add_mul, Nat.one_mul] at h5
      omega
    · exact c
    · exfalso
      have h5 := Nat.mul_le_mul_right (2 ^ t) (show x * b + 1 ≤ a * D from c)
      rw [Nat.add_mul, Nat.one_mul] at h5
      omega

set_option linter.unusedVariables false
def XF (s : Bool) (a b : Nat) (V : Int) (C N : Nat) : Prop := b ≠ 0 ∧ C ≠ 0 ∧ rvI s a * (C : Int) = V * (b : Int) ∧ blen a ≤ N ∧ blen b ≤ N
def XP (base : Nat) (w : World) (s : Bool) (p : Option Addr) (l c : Nat) (q : Option Addr) (k d : Nat) (V : Int) (C N : Nat) : Prop := ∃ a b, Own w base (.slice p l c) (dig a) ∧ Own w base (.slice q k d) (dig b) ∧ XF s a b V C N
theorem XP.kp {base : Nat} {w : World} {s : Bool} {p : Option Addr} {l c : Nat} {q : Option Addr} {k d : Nat} {V : Int} {C N : Nat} {w' : World} (h : XP base w s p l c q k d V C N) (g : Kp w w') : XP base w' s p l c q k d V C N := by
  obtain ⟨a, b, h1, h2, h3⟩ := h
  exact ⟨a, b, h1.kp g, h2.kp g, h3⟩
theorem XP.mono {base : Nat} {w : World} {s : Bool} {p : Option Addr} {l c : Nat} {q : Option Addr} {k d : Nat} {V : Int} {C N : Nat} {base' : Nat} (h : XP base w s p l c q k d V C N) (g : base' ≤ base) : XP base' w s p l c q k d V C N := by
  obtain ⟨a, b, h1, h2, h3⟩ := h
  exact ⟨a, b, h1.mono g, h2.mono g, h3⟩
theorem XP.set {base : Nat} {w : World} {s : Bool} {p : Option Addr} {l c : Nat} {q : Option Addr} {k d : Nat} {V : Int} {C N : Nat} (h : XP base w s p l c q k d V C N) {x : Addr} (hx : x.block < base) (u : Value) : XP base (w.setCell x u) s p l c q k d V C N := by
  obtain ⟨a, b, h1, h2, h3⟩ := h
  exact ⟨a, b, h1.setOther hx u, h2.setOther hx u, h3⟩
theorem XP.as {base : Nat} {w : World} {s : Bool} {p : Option Addr} {l c : Nat} {q : Option Addr} {k d : Nat} {V : Int} {C N : Nat} (h : XP base w s p l c q k d V C N) (V2 : Int) (C2 N2 : Nat) (hc : C2 ≠ 0) (e : V * (C2 : Int) = V2 * (C : Int)) (hN : N ≤ N2) : XP base w s p l c q k d V2 C2 N2 := by
  obtain ⟨a, b, h1, h2, f1, f2, f3, f4, f5⟩ := h
  refine ⟨a, b, h1, h2, f1, hc, ?_, by omega, by omega⟩
  refine Int.eq_of_mul_eq_mul_right (show (C : Int) ≠ 0 by omega) ?_
  have e1 : rvI s a * (C2 : Int) * (C : Int) = rvI s a * (C : Int) * (C2 : Int) := by ac_rfl
  have e2 : V2 * (b : Int) * (C : Int) = V2 * (C : Int) * (b : Int) := by ac_rfl
  rw [e1, f3, e2, ← e]; ac_rfl
theorem RP.xp {base : Nat} {w : World} {s : Bool} {p : Option Addr} {l c : Nat} {q : Option Addr} {k d : Nat} {n : Bool} {m : Nat} (h : RP base w s p l c q k d n m) (K : Nat) (hK : K = 1074) : XP base w s p l c q k d (Iv n m) (2 ^ K) 1500 := by
  obtain ⟨a, b, h1, h2, h3⟩ := h
  obtain ⟨f1, f2, f3, f4, f5⟩ := h3 K hK
  refine ⟨a, b, h1, h2, f1, by have := Nat.two_pow_pos K; omega, ?_, f4, f5⟩
  have e : (a : Int) * ((2 ^ K : Nat) : Int) = ((Fq.vV Ieee.double m : Nat) : Int) * (b : Int) := by rw [← Int.natCast_mul, f2, Int.natCast_mul]
  rw [f3]; unfold rvI
  cases s
  · rw [if_neg (by decide), if_neg (by decide)]; exact e
  · rw [if_pos rfl, if_pos rfl, Int.neg_mul, e, Int.neg_mul]
theorem rvI_mul (s : Bool) (a b : Nat) : rvI s (a * b) = rvI s a * (b : Int) := by
  unfold rvI; cases s
  · rw [if_neg (by decide), if_neg (by decide), Int.natCast_mul]
  · rw [if_pos rfl, if_pos rfl, Int.natCast_mul, Int.neg_mul]
theorem rvI_mul2 (s s' : Bool) (a b : Nat) : rvI (s ^^ s') (a * b) = rvI s a * rvI s' b := by
  unfold rvI; cases s <;> cases s' <;> simp [Int.neg_mul, Int.mul_neg]
theorem frac_x (x D a' b' : Nat) (ng neg : Bool) (hD : D ≠ 0) (hF : FracOf x D 0 a' b') (hn : x ≠ 0 → ng = neg) : rvI ng a' * (D : Int) = rvI neg x * (b' : Int) := by
  have h := frac_ratio x D a' b' hD hF
  by_cases z : x = 0
  · have z' := hF.2.1.2 z
    rw [z, z']; unfold rvI; simp
  · rw [hn z, ← rvI_mul, ← rvI_mul, h]
theorem blen_mulX (u v N1 N2 : Nat) (h1 : blen u ≤ N1) (h2 : blen v ≤ N2) : blen (u * v) ≤ N1 + N2 := by
  rw [blen_le_iff, Nat.pow_add]
  exact Nat.mul_lt_mul'' ((blen_le_iff u N1).1 h1) ((blen_le_iff v N2).1 h2)
theorem xcmp_ (B1 B2 : Nat) (V V' : Int) (C C' N N' : Nat) (hN : N ≤ 200000) (hN' : N' ≤ 200000) (s : Bool) (p : Option Addr) (l c : Nat) (q : Option Addr) (k d : Nat) (s2 : Bool) (p2 : Option Addr) (l2 c2 : Nat) (q2 : Option Addr) (k2 d2 : Nat) (w : World) (h1 : XP B1 w s p l c q k d V C N) (h2 : XP B2 w s2 p2 l2 c2 q2 k2 d2 V' C' N') : Calls Tryz.prog 119 #[.agg #[.bool s, .slice p l c, .slice q k d], .agg #[.bool s2, .slice p2 l2 c2, .slice q2 k2 d2]] w fun e w' => e = .returned (.int .i64 (cmI (V * (C' : Int)) (V' * (C : Int)))) ∧ Kp w w' := by
  obtain ⟨a, b, o1, o2, zb, zc, i1, j1, j2⟩ := h1
  obtain ⟨x, y, o3, o4, zy, zc', i2, j3, j4⟩ := h2
  have h := rcmp6_ s p l c q k d s2 p2 l2 c2 q2 k2 d2 a b x y B1 B2 w o1 o2 o3 o4 zb zy (by omega) (by omega) (by omega) (by omega)
  have e : cmI (rvI s a * (y : Int)) (rvI s2 x * (b : Int)) = cmI (V * (C' : Int)) (V' * (C : Int)) := by
    have pk : (0 : Int) < (C : Int) * (C' : Int) := Int.mul_pos (by omega) (by omega)
    have pb : (0 : Int) < (b : Int) * (y : Int) := Int.mul_pos (by omega) (by omega)
    rw [← cmI_scale _ _ _ pk, ← cmI_scale (V * (C' : Int)) (V' * (C : Int)) _ pb]
    have e1 : rvI s a * (y : Int) * ((C : Int) * (C' : Int)) = rvI s a * (C : Int) * ((y : Int) * (C' : Int)) := by ac_rfl
    have e2 : rvI s2 x * (b : Int) * ((C : Int) * (C' : Int)) = rvI s2 x * (C' : Int) * ((b : Int) * (C : Int)) := by ac_rfl
    rw [e1, e2, i1, i2]
    have e3 : V * (b : Int) * ((y : Int) * (C' : Int)) = V * (C' : Int) * ((b : Int) * (y : Int)) := by ac_rfl
    have e4 : V' * (y : Int) * ((b : Int) * (C : Int)) = V' * (C : Int) * ((b : Int) * (y : Int)) := by ac_rfl
    rw [e3, e4]
  rw [e] at h
  exact h
theorem XF.add (s s' ng : Bool) (a1 a2 b1 b2 a' b' : Nat) (V V' : Int) (C C' N N' M : Nat) (h1 : XF s a1 a2 V C N) (h2 : XF s' b1 b2 V' C' N') (hb : b' ≠ 0) (h : rvI ng a' * ((a2 : Int) * (b2 : Int)) = (rvI s a1 * (b2 : Int) + rvI s' b1 * (a2 : Int)) * (b' : Int)) (m1 : blen a' ≤ M) (m2 : blen b' ≤ M) : XF ng a' b' (V * (C' : Int) + V' * (C : Int)) (C * C') M := by
  obtain ⟨za, zc, i1, -, -⟩ := h1
  obtain ⟨zb, zc', i2, -, -⟩ := h2
  refine ⟨hb, Nat.mul_ne_zero zc zc', ?_, m1, m2⟩
  have pn : (a2 : Int) * (b2 : Int) ≠ 0 := by have : (0 : Int) < (a2 : Int) * (b2 : Int) := Int.mul_pos (by omega) (by omega); omega
  refine Int.eq_of_mul_eq_mul_right pn ?_
  rw [Int.natCast_mul]
  have e1 : rvI ng a' * ((C : Int) * (C' : Int)) * ((a2 : Int) * (b2 : Int)) = rvI ng a' * ((a2 : Int) * (b2 : Int)) * ((C : Int) * (C' : Int)) := by ac_rfl
  rw [e1, h]
  simp only [Int.add_mul]
  have e2 : rvI s a1 * (b2 : Int) * (b' : Int) * ((C : Int) * (C' : Int)) = rvI s a1 * (C : Int) * ((b2 : Int) * (b' : Int) * (C' : Int)) := by ac_rfl
  have e3 : rvI s' b1 * (a2 : Int) * (b' : Int) * ((C : Int) * (C' : Int)) = rvI s' b1 * (C' : Int) * ((a2 : Int) * (b' : Int) * (C : Int)) := by ac_rfl
  rw [e2, e3, i1, i2]
  have e4 : V * (a2 : Int) * ((b2 : Int) * (b' : Int) * (C' : Int)) = V * (C' : Int) * (b' : Int) * ((a2 : Int) * (b2 : Int)) := by ac_rfl
  have e5 : V' * (b2 : Int) * ((a2 : Int) * (b' : Int) * (C : Int)) = V' * (C : Int) * (b' : Int) * ((a2 : Int) * (b2 : Int)) := by ac_rfl
  rw [e4, e5]
theorem XF.mul (s s' ng : Bool) (a1 a2 b1 b2 a' b' : Nat) (V V' : Int) (C C' N N' M : Nat) (h1 : XF s a1 a2 V C N) (h2 : XF s' b1 b2 V' C' N') (hb : b' ≠ 0) (h : rvI ng a' * ((a2 : Int) * (b2 : Int)) = rvI s a1 * rvI s' b1 * (b' : Int)) (m1 : blen a' ≤ M) (m2 : blen b' ≤ M) : XF ng a' b' (V * V') (C * C') M := by
  obtain ⟨za, zc, i1, -, -⟩ := h1
  obtain ⟨zb, zc', i2, -, -⟩ := h2
  refine ⟨hb, Nat.mul_ne_zero zc zc', ?_, m1, m2⟩
  have pn : (a2 : Int) * (b2 : Int) ≠ 0 := by have : (0 : Int) < (a2 : Int) * (b2 : Int) := Int.mul_pos (by omega) (by omega); omega
  refine Int.eq_of_mul_eq_mul_right pn ?_
  rw [Int.natCast_mul]
  have e1 : rvI ng a' * ((C : Int) * (C' : Int)) * ((a2 : Int) * (b2 : Int)) = rvI ng a' * ((a2 : Int) * (b2 : Int)) * ((C : Int) * (C' : Int)) := by ac_rfl
  have e2 : rvI s a1 * rvI s' b1 * (b' : Int) * ((C : Int) * (C' : Int)) = rvI s a1 * (C : Int) * (rvI s' b1 * (C' : Int)) * (b' : Int) := by ac_rfl
  rw [e1, h, e2, i1, i2]; ac_rfl
theorem XP.setNe {base : Nat} {w : World} {s : Bool} {p : Option Addr} {l c : Nat} {q : Option Addr} {k d : Nat} {V : Int} {C N : Nat} (h : XP base w s p l c q k d V C N) {x : Addr} (hx : NB p q x.block) (u : Value) : XP base (w.setCell x u) s p l c q k d V C N := by
  obtain ⟨a, b, h1, h2, h3⟩ := h
  exact ⟨a, b, h1.setNe hx.1 u, h2.setNe hx.2 u, h3⟩
set_option linter.unusedVariables false
set_option maxRecDepth 20000 in
set_option maxHeartbeats 1000000 in
theorem prZ1_ (i j S1 : Int) (s : Bool) (p : Option Addr) (l c : Nat) (q : Option Addr) (k d : Nat) (s2 : Bool) (p2 : Option Addr) (l2 c2 : Nat) (q2 : Option Addr) (k2 d2 : Nat) (t : (S1 == 0) = true) (w : World) (hs1 : ∀ W : World, Kp w W → Calls Tryz.prog 66 #[.agg #[.int .i64 i, .bool s, .slice p l c, .slice q k d]] W fun e w' => e = .returned (.int .i64 S1) ∧ Kp W w') : Calls Tryz.prog 53 #[.agg #[.int .i64 i, .bool s, .slice p l c, .slice q k d], .agg #[.int .i64 j, .bool s2, .slice p2 l2 c2, .slice q2 k2 d2]] w fun e w' => ∃ (s3 : Bool) (p3 : Option Addr) (l3 c3 : Nat) (q3 : Option Addr) (k3 d3 : Nat), e = .returned (.agg #[.int .i64 0, .bool s3, .slice p3 l3 c3, .slice q3 k3 d3]) ∧ RP w.heap.size w' s3 p3 l3 c3 q3 k3 d3 false 0 ∧ Kp w w' := by
  go_enter Tryz.func53, Tryz.ntmps53
  go_upto_region 1 with fail
  have AA := H4c.keep (H4c.keep (H4c.new w (.int .i64 i) (.bool s) (.slice p l c) (.slice q k d) 50) ((Kp.refl _).alloc (.cells #[.int .i64 j, .bool s2, .slice p2 l2 c2, .slice q2 k2 d2] 50))) ((Kp.refl _).alloc (.cells #[.int .i64 0, .bool false, .slice none 0 0, .slice none 0 0] 50))
  have BB := H4c.keep (H4c.new (w.alloc (.cells #[.int .i64 i, .bool s, .slice p l c, .slice q k d] 50)) (.int .i64 j) (.bool s2) (.slice p2 l2 c2) (.slice q2 k2 d2) 50) ((Kp.refl _).alloc (.cells #[.int .i64 0, .bool false, .slice none 0 0, .slice none 0 0] 50))
  have RR := H4c.new ((w.alloc (.cells #[.int .i64 i, .bool s, .slice p l c, .slice q k d] 50)).alloc (.cells #[.int .i64 j, .bool s2, .slice p2 l2 c2, .slice q2 k2 d2] 50)) (.int .i64 0) (.bool false) (.slice none 0 0) (.slice none 0 0) 50
  have kW : Kp w (((w.alloc (.cells #[.int .i64 i, .bool s, .slice p l c, .slice q k d] 50)).alloc (.cells #[.int .i64 j, .bool s2, .slice p2 l2 c2, .slice q2 k2 d2] 50)).alloc (.cells #[.int .i64 0, .bool false, .slice none 0 0, .slice none 0 0] 50)) := (((Kp.refl w).alloc _).alloc _).alloc _
  rw [show (w.alloc (.cells #[.int .i64 i, .bool s, .slice p l c, .slice q k d] 50)).heap.size = w.heap.size + 1 from by simp] at BB
  rw [show ((w.alloc (.cells #[.int .i64 i, .bool s, .slice p l c, .slice q k d] 50)).alloc (.cells #[.int .i64 j, .bool s2, .slice p2 l2 c2, .slice q2 k2 d2] 50)).heap.size = w.heap.size + 2 from by simp] at RR
  generalize (((w.alloc (.cells #[.int .i64 i, .bool s, .slice p l c, .slice q k d] 50)).alloc (.cells #[.int .i64 j, .bool s2, .slice p2 l2 c2, .slice q2 k2 d2] 50)).alloc (.cells #[.int .i64 0, .bool false, .slice none 0 0, .slice none 0 0] 50)) = W at AA BB RR kW ⊢
  obtain ⟨a0, a1, a2, a3, az0, az1, az2, az3⟩ := id AA; obtain ⟨b0, b1, b2, b3, bz0, bz1, bz2, bz3⟩ := id BB; obtain ⟨r0, r1, r2, r3, rz0, rz1, rz2, rz3⟩ := id RR
  go_wp2_with (first | (go_at_call_of 66 (Value.agg #[.int .i64 i, .bool s, .slice p l c, .slice q k d]); refine (hs1 _ kW).mono ?_; rintro e wv ⟨rfl, gv⟩; replace kW := Kp.trans kW gv; replace AA := H4c.keep AA gv; replace BB := H4c.keep BB gv; replace RR := H4c.keep RR gv; clear gv a0 a1 a2 a3 az0 az1 az2 az3 b0 b1 b2 b3 bz0 bz1 bz2 bz3 r0 r1 r2 r3 rz0 rz1 rz2 rz3; obtain ⟨a0, a1, a2, a3, az0, az1, az2, az3⟩ := id AA; obtain ⟨b0, b1, b2, b3, bz0, bz1, bz2, bz3⟩ := id BB; obtain ⟨r0, r1, r2, r3, rz0, rz1, rz2, rz3⟩ := id RR) | (go_at_call 47; refine (fin0_ _).mono ?_; rintro e wf ⟨s3, p3, l3, c3, q3, k3, d3, rfl, hp, gf⟩; have RF := H4c.keep RR gf; obtain ⟨f0, f1, f2, f3, f4, f5, f6, f7⟩ := id RF))
  have lR := RR.lt
  have lw := Below.size kW
  exact bodyPost_ret (v := .agg #[.int .i64 0, .bool s3, .slice p3 l3 c3, .slice q3 k3 d3]) (by simp [results, Tryz.results53, go_sem, f0, f1, f2, f3]) rfl ⟨s3, p3, l3, c3, q3, k3, d3, rfl, (((((hp.mono (show w.heap.size ≤ _ by omega)).setNe (x := ⟨w.heap.size + 2, 0, none⟩) (hp.nbLow lR) (.int .i64 0)).setNe (x := ⟨w.heap.size + 2, 1, none⟩) (hp.nbLow lR) (.bool s3)).setNe (x := ⟨w.heap.size + 2, 2, none⟩) (hp.nbLow lR) (.slice p3 l3 c3)).setNe (x := ⟨w.heap.size + 2, 3, none⟩) (hp.nbLow lR) (.slice q3 k3 d3)), (((((Kp.trans kW gf)).setCell (by simp <;> omega) _).setCell (by simp <;> omega) _).setCell (by simp <;> omega) _).setCell (by simp <;> omega) _⟩
set_option maxRecDepth 20000 in
set_option maxHeartbeats 1000000 in
theorem prZ2_ (i j S1 S2 : Int) (s : Bool) (p : Option Addr) (l c : Nat) (q : Option Addr) (k d : Nat) (s2 : Bool) (p2 : Option Addr) (l2 c2 : Nat) (q2 : Option Addr) (k2 d2 : Nat) (t : (S1 == 0) = false) (t2 : (S2 == 0) = true) (w : World) (hs1 : ∀ W : World, Kp w W → Calls Tryz.prog 66 #[.agg #[.int .i64 i, .bool s, .slice p l c, .slice q k d]] W fun e w' => e = .returned (.int .i64 S1) ∧ Kp W w') (hs2 : ∀ W : World, Kp w W → Calls Tryz.prog 66 #[.agg #[.int .i64 j, .bool s2, .slice p2 l2 c2, .slice q2 k2 d2]] W fun e w' => e = .returned (.int .i64 S2) ∧ Kp W w') : Calls Tryz.prog 53 #[.agg #[.int .i64 i, .bool s, .slice p l c, .slice q k d], .agg #[.int .i64 j, .bool s2, .slice p2 l2 c2, .slice q2 k2 d2]] w fun e w' => ∃ (s3 : Bool) (p3 : Option Addr) (l3 c3 : Nat) (q3 : Option Addr) (k3 d3 : Nat), e = .returned (.agg #[.int .i64 0, .bool s3, .slice p3 l3 c3, .slice q3 k3 d3]) ∧ RP w.heap.size w' s3 p3 l3 c3 q3 k3 d3 false 0 ∧ Kp w w' := by
  go_enter Tryz.func53, Tryz.ntmps53
  go_upto_region 1 with fail
  have AA := H4c.keep (H4c.keep (H4c.new w (.int .i64 i) (.bool s) (.slice p l c) (.slice q k d) 50) ((Kp.refl _).alloc (.cells #[.int .i64 j, .bool s2, .slice p2 l2 c2, .slice q2 k2 d2] 50))) ((Kp.refl _).alloc (.cells #[.int .i64 0, .bool false, .slice none 0 0, .slice none 0 0] 50))
  have BB := H4c.keep (H4c.new (w.alloc (.cells #[.int .i64 i, .bool s, .slice p l c, .slice q k d] 50)) (.int .i64 j) (.bool s2) (.slice p2 l2 c2) (.slice q2 k2 d2) 50) ((Kp.refl _).alloc (.cells #[.int .i64 0, .bool false, .slice none 0 0, .slice none 0 0] 50))
  have RR := H4c.new ((w.alloc (.cells #[.int .i64 i, .bool s, .slice p l c, .slice q k d] 50)).alloc (.cells #[.int .i64 j, .bool s2, .slice p2 l2 c2, .slice q2 k2 d2] 50)) (.int .i64 0) (.bool false) (.slice none 0 0) (.slice none 0 0) 50
  have kW : Kp w (((w.alloc (.cells #[.int .i64 i, .bool s, .slice p l c, .slice q k d] 50)).alloc (.cells #[.int .i64 j, .bool s2, .slice p2 l2 c2, .slice q2 k2 d2] 50)).alloc (.cells #[.int .i64 0, .bool false, .slice none 0 0, .slice none 0 0] 50)) := (((Kp.refl w).alloc _).alloc _).alloc _
  rw [show (w.alloc (.cells #[.int .i64 i, .bool s, .slice p l c, .slice q k d] 50)).heap.size = w.heap.size + 1 from by simp] at BB
  rw [show ((w.alloc (.cells #[.int .i64 i, .bool s, .slice p l c, .slice q k d] 50)).alloc (.cells #[.int .i64 j, .bool s2, .slice p2 l2 c2, .slice q2 k2 d2] 50)).heap.size = w.heap.size + 2 from by simp] at RR
  generalize (((w.alloc (.cells #[.int .i64 i, .bool s, .slice p l c, .slice q k d] 50)).alloc (.cells #[.int .i64 j, .bool s2, .slice p2 l2 c2, .slice q2 k2 d2] 50)).alloc (.cells #[.int .i64 0, .bool false, .slice none 0 0, .slice none 0 0] 50)) = W at AA BB RR kW ⊢
  obtain ⟨a0, a1, a2, a3, az0, az1, az2, az3⟩ := id AA; obtain ⟨b0, b1, b2, b3, bz0, bz1, bz2, bz3⟩ := id BB; obtain ⟨r0, r1, r2, r3, rz0, rz1, rz2, rz3⟩ := id RR
  go_wp2_with (first | (go_at_call_of 66 (Value.agg #[.int .i64 i, .bool s, .slice p l c, .slice q k d]); refine (hs1 _ kW).mono ?_; rintro e wv ⟨rfl, gv⟩; replace kW := Kp.trans kW gv; replace AA := H4c.keep AA gv; replace BB := H4c.keep BB gv; replace RR := H4c.keep RR gv; clear gv a0 a1 a2 a3 az0 az1 az2 az3 b0 b1 b2 b3 bz0 bz1 bz2 bz3 r0 r1 r2 r3 rz0 rz1 rz2 rz3; obtain ⟨a0, a1, a2, a3, az0, az1, az2, az3⟩ := id AA; obtain ⟨b0, b1, b2, b3, bz0, bz1, bz2, bz3⟩ := id BB; obtain ⟨r0, r1, r2, r3, rz0, rz1, rz2, rz3⟩ := id RR) | (go_at_call_of 66 (Value.agg #[.int .i64 j, .bool s2, .slice p2 l2 c2, .slice q2 k2 d2]); refine (hs2 _ kW).mono ?_; rintro e wv ⟨rfl, gv⟩; replace kW := Kp.trans kW gv; replace AA := H4c.keep AA gv; replace BB := H4c.keep BB gv; replace RR := H4c.keep RR gv; clear gv a0 a1 a2 a3 az0 az1 az2 az3 b0 b1 b2 b3 bz0 bz1 bz2 bz3 r0 r1 r2 r3 rz0 rz1 rz2 rz3; obtain ⟨a0, a1, a2, a3, az0, az1, az2, az3⟩ := id AA; obtain ⟨b0, b1, b2, b3, bz0, bz1, bz2, bz3⟩ := id BB; obtain ⟨r0, r1, r2, r3, rz0, rz1, rz2, rz3⟩ := id RR) | (go_at_call 47; refine (fin0_ _).mono ?_; rintro e wf ⟨s3, p3, l3, c3, q3, k3, d3, rfl, hp, gf⟩; have RF := H4c.keep RR gf; obtain ⟨f0, f1, f2, f3, f4, f5, f6, f7⟩ := id RF))
  have lR := RR.lt
  have lw := Below.size kW
  exact bodyPost_ret (v := .agg #[.int .i64 0, .bool s3, .slice p3 l3 c3, .slice q3 k3 d3]) (by simp [results, Tryz.results53, go_sem, f0, f1, f2, f3]) rfl ⟨s3, p3, l3, c3, q3, k3, d3, rfl, (((((hp.mono (show w.heap.size ≤ _ by omega)).setNe (x := ⟨w.heap.size + 2, 0, none⟩) (hp.nbLow lR) (.int .i64 0)).setNe (x := ⟨w.heap.size + 2, 1, none⟩) (hp.nbLow lR) (.bool s3)).setNe (x := ⟨w.heap.size + 2, 2, none⟩) (hp.nbLow lR) (.slice p3 l3 c3)).setNe (x := ⟨w.heap.size + 2, 3, none⟩) (hp.nbLow lR) (.slice q3 k3 d3)), (((((Kp.trans kW gf)).setCell (by simp <;> omega) _).setCell (by simp <;> omega) _).setCell (by simp <;> omega) _).setCell (by simp <;> omega) _⟩
set_option maxRecDepth 20000 in
set_option maxHeartbeats 1000000 in
theorem prF_ (S1 S2 : Int) (V : Int) (C N : Nat) (s : Bool) (p : Option Addr) (l c : Nat) (q : Option Addr) (k d : Nat) (s2 : Bool) (p2 : Option Addr) (l2 c2 : Nat) (q2 : Option Addr) (k2 d2 : Nat) (t : (S1 == 0) = false) (t2 : (S2 == 0) = false) (w : World) (hs1 : ∀ W : World, Kp w W → Calls Tryz.prog 66 #[.agg #[.int .i64 0, .bool s, .slice p l c, .slice q k d]] W fun e w' => e = .returned (.int .i64 S1) ∧ Kp W w') (hs2 : ∀ W : World, Kp w W → Calls Tryz.prog 66 #[.agg #[.int .i64 0, .bool s2, .slice p2 l2 c2, .slice q2 k2 d2]] W fun e w' => e = .returned (.int .i64 S2) ∧ Kp W w') (hR : ∀ W : World, Kp w W → Calls Tryz.prog 79 #[.agg #[.bool s, .slice p l c, .slice q k d], .agg #[.bool s2, .slice p2 l2 c2, .slice q2 k2 d2]] W fun e w' => ∃ (s3 : Bool) (p3 : Option Addr) (l3 c3 : Nat) (q3 : Option Addr) (k3 d3 : Nat), e = .returned (.agg #[.bool s3, .slice p3 l3 c3, .slice q3 k3 d3]) ∧ XP W.heap.size w' s3 p3 l3 c3 q3 k3 d3 V C N ∧ Kp W w') : Calls Tryz.prog 53 #[.agg #[.int .i64 0, .bool s, .slice p l c, .slice q k d], .agg #[.int .i64 0, .bool s2, .slice p2 l2 c2, .slice q2 k2 d2]] w fun e w' => ∃ (s3 : Bool) (p3 : Option Addr) (l3 c3 : Nat) (q3 : Option Addr) (k3 d3 : Nat), e = .returned (.agg #[.int .i64 0, .bool s3, .slice p3 l3 c3, .slice q3 k3 d3]) ∧ XP w.heap.size w' s3 p3 l3 c3 q3 k3 d3 V C N ∧ Kp w w' := by
  go_enter Tryz.func53, Tryz.ntmps53
  go_upto_region 1 with fail
  have AA := H4c.keep (H4c.keep (H4c.new w (.int .i64 0) (.bool s) (.slice p l c) (.slice q k d) 50) ((Kp.refl _).alloc (.cells #[.int .i64 0, .bool s2, .slice p2 l2 c2, .slice q2 k2 d2] 50))) ((Kp.refl _).alloc (.cells #[.int .i64 0, .bool false, .slice none 0 0, .slice none 0 0] 50))
  have BB := H4c.keep (H4c.new (w.alloc (.cells #[.int .i64 0, .bool s, .slice p l c, .slice q k d] 50)) (.int .i64 0) (.bool s2) (.slice p2 l2 c2) (.slice q2 k2 d2) 50) ((Kp.refl _).alloc (.cells #[.int .i64 0, .bool false, .slice none 0 0, .slice none 0 0] 50))
  have RR := H4c.new ((w.alloc (.cells #[.int .i64 0, .bool s, .slice p l c, .slice q k d] 50)).alloc (.cells #[.int .i64 0, .bool s2, .slice p2 l2 c2, .slice q2 k2 d2] 50)) (.int .i64 0) (.bool false) (.slice none 0 0) (.slice none 0 0) 50
  have kW : Kp w (((w.alloc (.cells #[.int .i64 0, .bool s, .slice p l c, .slice q k d] 50)).alloc (.cells #[.int .i64 0, .bool s2, .slice p2 l2 c2, .slice q2 k2 d2] 50)).alloc (.cells #[.int .i64 0, .bool false, .slice none 0 0, .slice none 0 0] 50)) := (((Kp.refl w).alloc _).alloc _).alloc _
  rw [show (w.alloc (.cells #[.int .i64 0, .bool s, .slice p l c, .slice q k d] 50)).heap.size = w.heap.size + 1 from by simp] at BB
  rw [show ((w.alloc (.cells #[.int .i64 0, .bool s, .slice p l c, .slice q k d] 50)).alloc (.cells #[.int .i64 0, .bool s2, .slice p2 l2 c2, .slice q2 k2 d2] 50)).heap.size = w.heap.size + 2 from by simp] at RR
  generalize (((w.alloc (.cells #[.int .i64 0, .bool s, .slice p l c, .slice q k d] 50)).alloc (.cells #[.int .i64 0, .bool s2, .slice p2 l2 c2, .slice q2 k2 d2] 50)).alloc (.cells #[.int .i64 0, .bool false, .slice none 0 0, .slice none 0 0] 50)) = W at AA BB RR kW ⊢
  obtain ⟨a0, a1, a2, a3, az0, az1, az2, az3⟩ := id AA; obtain ⟨b0, b1, b2, b3, bz0, bz1, bz2, bz3⟩ := id BB; obtain ⟨r0, r1, r2, r3, rz0, rz1, rz2, rz3⟩ := id RR
  go_wp2_with (first | (go_at_call_of 66 (Value.agg #[.int .i64 0, .bool s, .slice p l c, .slice q k d]); refine (hs1 _ kW).mono ?_; rintro e wv ⟨rfl, gv⟩; replace kW := Kp.trans kW gv; replace AA := H4c.keep AA gv; replace BB := H4c.keep BB gv; replace RR := H4c.keep RR gv; clear gv a0 a1 a2 a3 az0 az1 az2 az3 b0 b1 b2 b3 bz0 bz1 bz2 bz3 r0 r1 r2 r3 rz0 rz1 rz2 rz3; obtain ⟨a0, a1, a2, a3, az0, az1, az2, az3⟩ := id AA; obtain ⟨b0, b1, b2, b3, bz0, bz1, bz2, bz3⟩ := id BB; obtain ⟨r0, r1, r2, r3, rz0, rz1, rz2, rz3⟩ := id RR) | (go_at_call_of 66 (Value.agg #[.int .i64 0, .bool s2, .slice p2 l2 c2, .slice q2 k2 d2]); refine (hs2 _ kW).mono ?_; rintro e wv ⟨rfl, gv⟩; replace kW := Kp.trans kW gv; replace AA := H4c.keep AA gv; replace BB := H4c.keep BB gv; replace RR := H4c.keep RR gv; clear gv a0 a1 a2 a3 az0 az1 az2 az3 b0 b1 b2 b3 bz0 bz1 bz2 bz3 r0 r1 r2 r3 rz0 rz1 rz2 rz3; obtain ⟨a0, a1, a2, a3, az0, az1, az2, az3⟩ := id AA; obtain ⟨b0, b1, b2, b3, bz0, bz1, bz2, bz3⟩ := id BB; obtain ⟨r0, r1, r2, r3, rz0, rz1, rz2, rz3⟩ := id RR) | (go_at_call 79; refine (hR _ kW).mono ?_; rintro e wf ⟨s3, p3, l3, c3, q3, k3, d3, rfl, hp, gf⟩; have RF := H4c.keep RR gf; obtain ⟨f0, f1, f2, f3, f4, f5, f6, f7⟩ := id RF))
  have lR := RR.lt
  have lw := Below.size kW
  exact bodyPost_ret (v := .agg #[.int .i64 0, .bool s3, .slice p3 l3 c3, .slice q3 k3 d3]) (by simp [results, Tryz.results53, go_sem, f0, f1, f2, f3]) rfl ⟨s3, p3, l3, c3, q3, k3, d3, rfl, XP.mono ((XP.set (XP.set (XP.set (XP.set hp (x := ⟨w.heap.size + 2, 0, none⟩) (by have q9 := lR; simp; omega) (.int .i64 0)) (x := ⟨w.heap.size + 2, 1, none⟩) (by have q9 := lR; simp; omega) (.bool s3)) (x := ⟨w.heap.size + 2, 2, none⟩) (by have q9 := lR; simp; omega) (.slice p3 l3 c3)) (x := ⟨w.heap.size + 2, 3, none⟩) (by have q9 := lR; simp; omega) (.slice q3 k3 d3))) (by omega), (((((Kp.trans kW gf)).setCell (by simp <;> omega) _).setCell (by simp <;> omega) _).setCell (by simp <;> omega) _).setCell (by simp <;> omega) _⟩
set_option maxRecDepth 20000 in
set_option maxHeartbeats 2000000 in
theorem prI_ (i j S1 S2 S3 : Int) (s : Bool) (p : Option Addr) (l c : Nat) (q : Option Addr) (k d : Nat) (s2 : Bool) (p2 : Option Addr) (l2 c2 : Nat) (q2 : Option Addr) (k2 d2 : Nat) (t : (S1 == 0) = false) (t2 : (S2 == 0) = false) (ti : (i != 0) = true ∨ ((i != 0) = false ∧ (j != 0) = true)) (hmul : IntKind.i64.wrap (S1 * S2) = S3) (w : World) (hs1 : ∀ W : World, Kp w W → Calls Tryz.prog 66 #[.agg #[.int .i64 i, .bool s, .slice p l c, .slice q k d]] W fun e w' => e = .returned (.int .i64 S1) ∧ Kp W w') (hs2 : ∀ W : World, Kp w W → Calls Tryz.prog 66 #[.agg #[.int .i64 j, .bool s2, .slice p2 l2 c2, .slice q2 k2 d2]] W fun e w' => e = .returned (.int .i64 S2) ∧ Kp W w') : Calls Tryz.prog 53 #[.agg #[.int .i64 i, .bool s, .slice p l c, .slice q k d], .agg #[.int .i64 j, .bool s2, .slice p2 l2 c2, .slice q2 k2 d2]] w fun e w' => ∃ (s3 : Bool) (p3 : Option Addr) (l3 c3 : Nat) (q3 : Option Addr) (k3 d3 : Nat), e = .returned (.agg #[.int .i64 S3, .bool s3, .slice p3 l3 c3, .slice q3 k3 d3]) ∧ RP w.heap.size w' s3 p3 l3 c3 q3 k3 d3 false 0 ∧ Kp w w' := by
  rcases ti with ti | ⟨ti, tj⟩
  all_goals (
    go_enter Tryz.func53, Tryz.ntmps53
    go_upto_region 1 with fail
    have AA := H4c.keep (H4c.keep (H4c.new w (.int .i64 i) (.bool s) (.slice p l c) (.slice q k d) 50) ((Kp.refl _).alloc (.cells #[.int .i64 j, .bool s2, .slice p2 l2 c2, .slice q2 k2 d2] 50))) ((Kp.refl _).alloc (.cells #[.int .i64 0, .bool false, .slice none 0 0, .slice none 0 0] 50))
    have BB := H4c.keep (H4c.new (w.alloc (.cells #[.int .i64 i, .bool s, .slice p l c, .slice q k d] 50)) (.int .i64 j) (.bool s2) (.slice p2 l2 c2) (.slice q2 k2 d2) 50) ((Kp.refl _).alloc (.cells #[.int .i64 0, .bool false, .slice none 0 0, .slice none 0 0] 50))
    have RR := H4c.new ((w.alloc (.cells #[.int .i64 i, .bool s, .slice p l c, .slice q k d] 50)).alloc (.cells #[.int .i64 j, .bool s2, .slice p2 l2 c2, .slice q2 k2 d2] 50)) (.int .i64 0) (.bool false) (.slice none 0 0) (.slice none 0 0) 50
    have kW : Kp w (((w.alloc (.cells #[.int .i64 i, .bool s, .slice p l c, .slice q k d] 50)).alloc (.cells #[.int .i64 j, .bool s2, .slice p2 l2 c2, .slice q2 k2 d2] 50)).alloc (.cells #[.int .i64 0, .bool false, .slice none 0 0, .slice none 0 0] 50)) := (((Kp.refl w).alloc _).alloc _).alloc _
    rw [show (w.alloc (.cells #[.int .i64 i, .bool s, .slice p l c, .slice q k d] 50)).heap.size = w.heap.size + 1 from by simp] at BB
    rw [show ((w.alloc (.cells #[.int .i64 i, .bool s, .slice p l c, .slice q k d] 50)).alloc (.cells #[.int .i64 j, .bool s2, .slice p2 l2 c2, .slice q2 k2 d2] 50)).heap.size = w.heap.size + 2 from by simp] at RR
    generalize (((w.alloc (.cells #[.int .i64 i, .bool s, .slice p l c, .slice q k d] 50)).alloc (.cells #[.int .i64 j, .bool s2, .slice p2 l2 c2, .slice q2 k2 d2] 50)).alloc (.cells #[.int .i64 0, .bool false, .slice none 0 0, .slice none 0 0] 50)) = W at AA BB RR kW ⊢
    obtain ⟨a0, a1, a2, a3, az0, az1, az2, az3⟩ := id AA; obtain ⟨b0, b1, b2, b3, bz0, bz1, bz2, bz3⟩ := id BB; obtain ⟨r0, r1, r2, r3, rz0, rz1, rz2, rz3⟩ := id RR
    go_upto_region 4 with (first | (go_at_call_of 66 (Value.agg #[.int .i64 i, .bool s, .slice p l c, .slice q k d]); refine (hs1 _ kW).mono ?_; rintro e wv ⟨rfl, gv⟩; replace kW := Kp.trans kW gv; replace AA := H4c.keep AA gv; replace BB := H4c.keep BB gv; replace RR := H4c.keep RR gv; clear gv a0 a1 a2 a3 az0 az1 az2 az3 b0 b1 b2 b3 bz0 bz1 bz2 bz3 r0 r1 r2 r3 rz0 rz1 rz2 rz3; obtain ⟨a0, a1, a2, a3, az0, az1, az2, az3⟩ := id AA; obtain ⟨b0, b1, b2, b3, bz0, bz1, bz2, bz3⟩ := id BB; obtain ⟨r0, r1, r2, r3, rz0, rz1, rz2, rz3⟩ := id RR) | (go_at_call_of 66 (Value.agg #[.int .i64 j, .bool s2, .slice p2 l2 c2, .slice q2 k2 d2]); refine (hs2 _ kW).mono ?_; rintro e wv ⟨rfl, gv⟩; replace kW := Kp.trans kW gv; replace AA := H4c.keep AA gv; replace BB := H4c.keep BB gv; replace RR := H4c.keep RR gv; clear gv a0 a1 a2 a3 az0 az1 az2 az3 b0 b1 b2 b3 bz0 bz1 bz2 bz3 r0 r1 r2 r3 rz0 rz1 rz2 rz3; obtain ⟨a0, a1, a2, a3, az0, az1, az2, az3⟩ := id AA; obtain ⟨b0, b1, b2, b3, bz0, bz1, bz2, bz3⟩ := id BB; obtain ⟨r0, r1, r2, r3, rz0, rz1, rz2, rz3⟩ := id RR))
    clear a0 a1 a2 a3 az0 az1 az2 az3 b0 b1 b2 b3 bz0 bz1 bz2 bz3 r0 r1 r2 r3 rz0 rz1 rz2 rz3
    generalize wv = W at AA BB RR kW ⊢
    obtain ⟨a0, a1, a2, a3, az0, az1, az2, az3⟩ := id AA; obtain ⟨b0, b1, b2, b3, bz0, bz1, bz2, bz3⟩ := id BB; obtain ⟨r0, r1, r2, r3, rz0, rz1, rz2, rz3⟩ := id RR
    have lR := RR.lt
    have lw := Below.size kW
    have ad0 : W.drew.cell? ⟨w.heap.size, 0, none⟩ = some (.int .i64 i) := a0
    have ad1 : W.drew.cell? ⟨w.heap.size, 1, none⟩ = some (.bool s) := a1
    have ad2 : W.drew.cell? ⟨w.heap.size, 2, none⟩ = some (.slice p l c) := a2
    have ad3 : W.drew.cell? ⟨w.heap.size, 3, none⟩ = some (.slice q k d) := a3
    have bd0 : W.drew.cell? ⟨w.heap.size + 1, 0, none⟩ = some (.int .i64 j) := b0
    have bd1 : W.drew.cell? ⟨w.heap.size + 1, 1, none⟩ = some (.bool s2) := b1
    have bd2 : W.drew.cell? ⟨w.heap.size + 1, 2, none⟩ = some (.slice p2 l2 c2) := b2
    have bd3 : W.drew.cell? ⟨w.heap.size + 1, 3, none⟩ = some (.slice q2 k2 d2) := b3
    go_region_held3 (fun w' => w'.cell? ⟨w.heap.size, 0, none⟩ = some (.int .i64 i) ∧ w'.cell? ⟨w.heap.size, 1, none⟩ = some (.bool s) ∧ w'.cell? ⟨w.heap.size, 2, none⟩ = some (.slice p l c) ∧ w'.cell? ⟨w.heap.size, 3, none⟩ = some (.slice q k d) ∧ w'.cell? ⟨w.heap.size + 1, 0, none⟩ = some (.int .i64 j) ∧ w'.cell? ⟨w.heap.size + 1, 1, none⟩ = some (.bool s2) ∧ w'.cell? ⟨w.heap.size + 1, 2, none⟩ = some (.slice p2 l2 c2) ∧ w'.cell? ⟨w.heap.size + 1, 3, none⟩ = some (.slice q2 k2 d2)) (first | (with_reducible exact ⟨a0, a1, a2, a3, b0, b1, b2, b3⟩) | (with_reducible exact ⟨ad0, ad1, ad2, ad3, bd0, bd1, bd2, bd3⟩) | (with_reducible exact ⟨i0, i1, i2, i3, j0, j1, j2, j3⟩) | (with_reducible exact ⟨m0, m1, m2, m3, n0, n1, n2, n3⟩) | (with_reducible exact ⟨u0, u1, u2, u3, v0, v1, v2, v3⟩) | (exact ⟨(H4c.far1 (H4c.far1 (H4c.far1 (H4c.far1 A3 ⟨w.heap.size + 2, 0, none⟩ (by simp) _) ⟨w.heap.size + 2, 1, none⟩ (by simp) _) ⟨w.heap.size + 2, 2, none⟩ (by simp) _) ⟨w.heap.size + 2, 3, none⟩ (by simp) _).1, (H4c.far1 (H4c.far1 (H4c.far1 (H4c.far1 A3 ⟨w.heap.size + 2, 0, none⟩ (by simp) _) ⟨w.heap.size + 2, 1, none⟩ (by simp) _) ⟨w.heap.size + 2, 2, none⟩ (by simp) _) ⟨w.heap.size + 2, 3, none⟩ (by simp) _).2.1, (H4c.far1 (H4c.far1 (H4c.far1 (H4c.far1 A3 ⟨w.heap.size + 2, 0, none⟩ (by simp) _) ⟨w.heap.size + 2, 1, none⟩ (by simp) _) ⟨w.heap.size + 2, 2, none⟩ (by simp) _) ⟨w.heap.size + 2, 3, none⟩ (by simp) _).2.2.1, (H4c.far1 (H4c.far1 (H4c.far1 (H4c.far1 A3 ⟨w.heap.size + 2, 0, none⟩ (by simp) _) ⟨w.heap.size + 2, 1, none⟩ (by simp) _) ⟨w.heap.size + 2, 2, none⟩ (by simp) _) ⟨w.heap.size + 2, 3, none⟩ (by simp) _).2.2.2.1, (H4c.far1 (H4c.far1 (H4c.far1 (H4c.far1 B3 ⟨w.heap.size + 2, 0, none⟩ (by simp) _) ⟨w.heap.size + 2, 1, none⟩ (by simp) _) ⟨w.heap.size + 2, 2, none⟩ (by simp) _) ⟨w.heap.size + 2, 3, none⟩ (by simp) _).1, (H4c.far1 (H4c.far1 (H4c.far1 (H4c.far1 B3 ⟨w.heap.size + 2, 0, none⟩ (by simp) _) ⟨w.heap.size + 2, 1, none⟩ (by simp) _) ⟨w.heap.size + 2, 2, none⟩ (by simp) _) ⟨w.heap.size + 2, 3, none⟩ (by simp) _).2.1, (H4c.far1 (H4c.far1 (H4c.far1 (H4c.far1 B3 ⟨w.heap.size + 2, 0, none⟩ (by simp) _) ⟨w.heap.size + 2, 1, none⟩ (by simp) _) ⟨w.heap.size + 2, 2, none⟩ (by simp) _) ⟨w.heap.size + 2, 3, none⟩ (by simp) _).2.2.1, (H4c.far1 (H4c.far1 (H4c.far1 (H4c.far1 B3 ⟨w.heap.size + 2, 0, none⟩ (by simp) _) ⟨w.heap.size + 2, 1, none⟩ (by simp) _) ⟨w.heap.size + 2, 2, none⟩ (by simp) _) ⟨w.heap.size + 2, 3, none⟩ (by simp) _).2.2.2.1⟩)) (first | (go_at_call 65; refine (int0_ _).mono ?_; rintro e w3 ⟨s3, p3, l3, c3, q3, k3, d3, rfl, hp, g3⟩; have K3 : Kp W w3 := Kp.trans K2 g3; have A3 := H4c.keep AA K3; have B3 := H4c.keep BB K3; obtain ⟨u0, u1, u2, u3, _, _, _, _⟩ := id A3; obtain ⟨v0, v1, v2, v3, _, _, _, _⟩ := id B3; have R3 := H4c.keep RR K3; obtain ⟨f0, f1, f2, f3, f4, f5, f6, f7⟩ := id R3) | (go_at_call_of 66 (Value.agg #[.int .i64 j, .bool s2, .slice p2 l2 c2, .slice q2 k2 d2]); refine (hs2 _ (Kp.trans kW K1)).mono ?_; rintro e w2 ⟨rfl, g2⟩; have K2 : Kp W w2 := Kp.trans K1 g2; obtain ⟨m0, m1, m2, m3, _, _, _, _⟩ := H4c.keep AA K2; obtain ⟨n0, n1, n2, n3, _, _, _, _⟩ := H4c.keep BB K2) | (go_at_call_of 66 (Value.agg #[.int .i64 i, .bool s, .slice p l c, .slice q k d]); refine (hs1 _ (kW.drew)).mono ?_; rintro e w1 ⟨rfl, g1⟩; have K1 : Kp W w1 := Kp.trans (Kp.drew (Kp.refl _)) g1; obtain ⟨i0, i1, i2, i3, _, _, _, _⟩ := H4c.keep AA K1; obtain ⟨j0, j1, j2, j3, _, _, _, _⟩ := H4c.keep BB K1))
    go_wp2
    have l2 := Below.size K2
    exact bodyPost_ret (v := .agg #[.int .i64 S3, .bool s3, .slice p3 l3 c3, .slice q3 k3 d3]) (by simp [results, Tryz.results53, go_sem, f0, f1, f2, f3]) rfl ⟨s3, p3, l3, c3, q3, k3, d3, rfl, (((((hp.mono (show w.heap.size ≤ _ by omega)).setNe (x := ⟨w.heap.size + 2, 0, none⟩) (hp.nbLow (Nat.lt_of_lt_of_le lR l2)) (.int .i64 S3)).setNe (x := ⟨w.heap.size + 2, 1, none⟩) (hp.nbLow (Nat.lt_of_lt_of_le lR l2)) (.bool s3)).setNe (x := ⟨w.heap.size + 2, 2, none⟩) (hp.nbLow (Nat.lt_of_lt_of_le lR l2)) (.slice p3 l3 c3)).setNe (x := ⟨w.heap.size + 2, 3, none⟩) (hp.nbLow (Nat.lt_of_lt_of_le lR l2)) (.slice q3 k3 d3)), (((((Kp.trans kW K3)).setCell (by simp <;> omega) _).setCell (by simp <;> omega) _).setCell (by simp <;> omega) _).setCell (by simp <;> omega) _⟩)
end Go.Proofs.YtinohggonicjhaaGreatDoor
