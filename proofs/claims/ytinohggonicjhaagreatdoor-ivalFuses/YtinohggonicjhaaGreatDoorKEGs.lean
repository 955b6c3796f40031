import Derived.Test.YtinohggonicjhaaGreatDoorKEP
namespace Go.Proofs.YtinohggonicjhaaGreatDoor
open Go.RowKit
theorem leastP_ (i j : Int) (ZA ZB : Int → Nat) (s : Bool) (p : Option Addr) (l c : Nat) (q : Option Addr) (k d : Nat) (s2 : Bool) (p2 : Option Addr) (l2 c2 : Nat) (q2 : Option Addr) (k2 d2 : Nat) (B1 B2 : Nat) (w : World) (h1 : i = 0 → QP B1 w s p l c q k d ZA) (h2 : j = 0 → QP B2 w s2 p2 l2 c2 q2 k2 d2 ZB) : Calls Tryz.prog 23 #[.agg #[.bool false, .int .i64 i, .bool s, .slice p l c, .slice q k d, .int .i64 j, .bool s2, .slice p2 l2 c2, .slice q2 k2 d2]] w fun e w' => e = .returned (.agg #[.int .u64 ((if i = 0 then ZA (-1) else 18442240474082181120 : Nat) : Int), .int .u64 ((if j = 0 then ZB 1 else 9218868437227405312 : Nat) : Int)]) ∧ Kp w w' := by
  by_cases e1 : i = 0
  · have g1 := h1 e1
    rw [if_pos e1]
    by_cases e2 : j = 0
    · have g2 := h2 e2
      rw [if_pos e2]
      subst e1 e2
      exact leastFF_ _ _ s p l c q k d s2 p2 l2 c2 q2 k2 d2 w (fun W g => qbits_ s p l c q k d ZA (-1) B1 W (g1.kp g)) (fun W g => qbits_ s2 p2 l2 c2 q2 k2 d2 ZB 1 B2 W (g2.kp g))
    · rw [if_neg e2]
      subst e1
      exact leastFN_ _ j (by simpa using e2) s p l c q k d s2 p2 l2 c2 q2 k2 d2 w (fun W g => qbits_ s p l c q k d ZA (-1) B1 W (g1.kp g))
  · rw [if_neg e1]
    by_cases e2 : j = 0
    · have g2 := h2 e2
      rw [if_pos e2]
      subst e2
      exact leastNF_ i (by simpa using e1) _ s p l c q k d s2 p2 l2 c2 q2 k2 d2 w (fun W g => qbits_ s2 p2 l2 c2 q2 k2 d2 ZB 1 B2 W (g2.kp g))
    · rw [if_neg e2]
      exact leastNN_ i (by simpa using e1) j (by simpa using e2) s p l c q k d s2 p2 l2 c2 q2 k2 d2 w
theorem leastN_ (W : World) (v : Value) (h : SV0 true v) : Calls Tryz.prog 23 #[v] W fun e w' => e = .returned (.agg #[.int .u64 9218868437227405312, .int .u64 18442240474082181120]) ∧ Kp W w' := by
  obtain ⟨i, j, s, p, l, c, q, k, d, s2, p2, l2, c2, q2, k2, d2, rfl⟩ := h
  exact leastE_ i j s p l c q k d s2 p2 l2 c2 q2 k2 d2 W
theorem plusX_ (N M : Bool) (hNM : N = true ∨ M = true) (W : World) (u v : Value) (h1 : SV0 N u) (h2 : SV0 M v) : Calls Tryz.prog 30 #[u, v] W fun e w' => ∃ v', e = .returned v' ∧ SV0 true v' ∧ Kp W w' := by
  obtain ⟨i, j, s, p, l, c, q, k, d, s2, p2, l2, c2, q2, k2, d2, rfl⟩ := h1
  obtain ⟨i2, j2, s3, p3, l3, c3, q3, k3, d3, s4, p4, l4, c4, q4, k4, d4, rfl⟩ := h2
  cases N
  · have hM : M = true := by simpa using hNM
    subst hM
    refine (plusE2_ i j i2 j2 s p l c q k d s2 p2 l2 c2 q2 k2 d2 s3 p3 l3 c3 q3 k3 d3 s4 p4 l4 c4 q4 k4 d4 W).mono ?_
    rintro e w' ⟨s5, p5, l5, c5, q5, k5, d5, s6, p6, l6, c6, q6, k6, d6, rfl, g⟩
    exact ⟨_, rfl, ⟨0, 0, s5, p5, l5, c5, q5, k5, d5, s6, p6, l6, c6, q6, k6, d6, rfl⟩, g⟩
  · refine (plusE1_ i j i2 j2 M s p l c q k d s2 p2 l2 c2 q2 k2 d2 s3 p3 l3 c3 q3 k3 d3 s4 p4 l4 c4 q4 k4 d4 W).mono ?_
    rintro e w' ⟨s5, p5, l5, c5, q5, k5, d5, s6, p6, l6, c6, q6, k6, d6, rfl, g⟩
    exact ⟨_, rfl, ⟨0, 0, s5, p5, l5, c5, q5, k5, d5, s6, p6, l6, c6, q6, k6, d6, rfl⟩, g⟩
theorem of0_ (a b : Nat) (ha : a < 18446744073709551616) (hb : b < 18446744073709551616) (w : World) : Calls Tryz.prog 25 #[.agg #[.int .u64 ((a : Nat) : Int), .int .u64 ((b : Nat) : Int)]] w fun e w' => ∃ v, e = .returned v ∧ SV0 (!(Fq.snd a b)) v ∧ Kp w w' := by
  by_cases hs : Fq.snd a b = true
  · obtain ⟨n, m, hm, e1⟩ := rlo_w a b ha hb
    obtain ⟨n', m', hm', e2⟩ := rhi_w a b ha hb
    refine (ofSound_ a b ha hb hs n n' m m' hm hm' e1 e2 w).mono ?_
    rintro e w' ⟨v, rfl, h, g⟩
    rw [hs]
    exact ⟨v, rfl, h.sv0, g⟩
  · have hs : Fq.snd a b = false := by simpa using hs
    rw [hs]
    exact ofEmpty_ a b ha hb hs w
theorem timesX_ (N M : Bool) (hNM : N = true ∨ M = true) (W : World) (u v : Value) (h1 : SV0 N u) (h2 : SV0 M v) : Calls Tryz.prog 31 #[u, v] W fun e w' => ∃ v', e = .returned v' ∧ SV0 true v' ∧ Kp W w' := by
  obtain ⟨i, j, s, p, l, c, q, k, d, s2, p2, l2, c2, q2, k2, d2, rfl⟩ := h1
  obtain ⟨i2, j2, s3, p3, l3, c3, q3, k3, d3, s4, p4, l4, c4, q4, k4, d4, rfl⟩ := h2
  cases N
  · have hM : M = true := by simpa using hNM
    subst hM
    refine (timesE2_ i j i2 j2 s p l c q k d s2 p2 l2 c2 q2 k2 d2 s3 p3 l3 c3 q3 k3 d3 s4 p4 l4 c4 q4 k4 d4 W).mono ?_
    rintro e w' ⟨s5, p5, l5, c5, q5, k5, d5, s6, p6, l6, c6, q6, k6, d6, rfl, g⟩
    exact ⟨_, rfl, ⟨0, 0, s5, p5, l5, c5, q5, k5, d5, s6, p6, l6, c6, q6, k6, d6, rfl⟩, g⟩
  · refine (timesE1_ i j i2 j2 M s p l c q k d s2 p2 l2 c2 q2 k2 d2 s3 p3 l3 c3 q3 k3 d3 s4 p4 l4 c4 q4 k4 d4 W).mono ?_
    rintro e w' ⟨s5, p5, l5, c5, q5, k5, d5, s6, p6, l6, c6, q6, k6, d6, rfl, g⟩
    exact ⟨_, rfl, ⟨0, 0, s5, p5, l5, c5, q5, k5, d5, s6, p6, l6, c6, q6, k6, d6, rfl⟩, g⟩

def pw (z : Int) : Nat := Fq.wD (decide (z < 0)) z.natAbs
def BdZ (z : Int) : Prop := -9218868437227405312 ≤ z ∧ z ≤ 9218868437227405312
theorem plz_pw (z : Int) : Fq.plz (decide (z < 0)) z.natAbs = z := by
  unfold Fq.plz
  by_cases c : z < 0 <;> simp [c] <;> omega
theorem abs_pw (z : Int) (h : BdZ z) : z.natAbs ≤ 9218868437227405312 := by unfold BdZ at h; omega
theorem pw_lt (z : Int) (h : BdZ z) : pw z < 18446744073709551616 := by
  have := abs_pw z h
  unfold pw Fq.wD; split <;> omega
theorem pw_ne (z : Int) (h : BdZ z) : pw z ≠ 9223372036854775808 := by
  have h2 := abs_pw z h
  unfold pw Fq.wD
  by_cases c : z < 0 <;> simp [c] <;> omega
theorem pla_pw (z : Int) (h : BdZ z) : Fq.pla (pw z) = pw z := by unfold Fq.pla; rw [if_neg (pw_ne z h)]
theorem pw_I : pw 9218868437227405312 = 9218868437227405312 := by decide
theorem pw_MI : pw (-9218868437227405312) = 18442240474082181120 := by decide
theorem ord_pw (x y : Int) (hx : BdZ x) (hy : BdZ y) : FloatKind.f64.format.order (pw x) (pw y) = some (compare x y) := by
  have h := Fq.ordD (decide (x < 0)) (decide (y < 0)) x.natAbs y.natAbs (abs_pw x hx) (abs_pw y hy)
  rw [plz_pw, plz_pw] at h
  exact h
theorem plt9 (x y : Int) (hx : BdZ x) (hy : BdZ y) : (FloatKind.f64.format.order (pw x) (pw y) == some Ordering.lt) = decide (x < y) := by
  rw [ord_pw x y hx hy]
  rcases Int.lt_trichotomy x y with g | g | g
  · rw [Fq.cmp_lt g, decide_eq_true g]; rfl
  · rw [Fq.cmp_eq g, decide_eq_false (by omega)]; rfl
  · rw [Fq.cmp_gt g, decide_eq_false (by omega)]; rfl
theorem pgt9 (x y : Int) (hx : BdZ x) (hy : BdZ y) : (FloatKind.f64.format.order (pw x) (pw y) == some Ordering.gt) = decide (y < x) := by
  rw [ord_pw x y hx hy]
  rcases Int.lt_trichotomy x y with g | g | g
  · rw [Fq.cmp_lt g, decide_eq_false (by omega)]; rfl
  · rw [Fq.cmp_eq g, decide_eq_false (by omega)]; rfl
  · rw [Fq.cmp_gt g, decide_eq_true g]; rfl
theorem peq9 (x y : Int) (hx : BdZ x) (hy : BdZ y) : (FloatKind.f64.format.order (pw x) (pw y) == some Ordering.eq) = decide (x = y) := by
  rw [ord_pw x y hx hy]
  rcases Int.lt_trichotomy x y with g | g | g
  · rw [Fq.cmp_lt g, decide_eq_false (by omega)]; rfl
  · rw [Fq.cmp_eq g, decide_eq_true g]; rfl
  · rw [Fq.cmp_gt g, decide_eq_false (by omega)]; rfl
theorem ple9 (x y : Int) (hx : BdZ x) (hy : BdZ y) : (FloatKind.f64.format.order (pw x) (pw y) == some Ordering.lt || FloatKind.f64.format.order (pw x) (pw y) == some Ordering.eq) = decide (x ≤ y) := by
  rw [plt9 x y hx hy, peq9 x y hx hy]
  by_cases c : x < y <;> by_cases c2 : x = y <;> simp [c, c2] <;> omega
theorem pw_inj (x y : Int) (hx : BdZ x) (hy : BdZ y) : pw x = pw y ↔ x = y := by
  constructor
  · intro h
    have e := peq9 x y hx hy
    have e2 := peq9 y y hy hy
    rw [h, e2] at e
    by_cases c : x = y
    · exact c
    · simp [c] at e
  · intro h; rw [h]
def VdZ (L H : Int) : Prop := (L = 9218868437227405312 ∧ H = -9218868437227405312) ∨ (-9218868437227405312 ≤ L ∧ L < 9218868437227405312 ∧ -9218868437227405312 < H ∧ H ≤ 9218868437227405312 ∧ L ≤ H)
theorem VdZ.lo {L H : Int} (h : VdZ L H) : BdZ L := by unfold VdZ at h; unfold BdZ; omega
theorem VdZ.hi {L H : Int} (h : VdZ L H) : BdZ H := by unfold VdZ at h; unfold BdZ; omega
theorem pw_plz (n : Bool) (m : Nat) (h : Fq.wD n m ≠ 9223372036854775808) (hm : m ≤ 9218868437227405312) : pw (Fq.plz n m) = Fq.wD n m ∧ BdZ (Fq.plz n m) := by
  cases n
  · have e : Fq.plz false m = (m : Int) := by simp [Fq.plz]
    rw [e]
    refine ⟨?_, by unfold BdZ; omega⟩
    unfold pw
    rw [show decide ((m : Int) < 0) = false from decide_eq_false (by omega), show ((m : Int)).natAbs = m from by omega]
  · have e : Fq.plz true m = -(m : Int) := by simp [Fq.plz]
    have z : m ≠ 0 := by intro z; apply h; rw [z]; rfl
    rw [e]
    refine ⟨?_, by unfold BdZ; omega⟩
    unfold pw
    rw [show decide (-(m : Int) < 0) = true from decide_eq_true (by omega), show (-(m : Int)).natAbs = m from by omega]
theorem snd_pw (L H : Int) (hL : BdZ L) (hH : BdZ H) : Fq.snd (pw L) (pw H) = decide (L ≤ H ∧ L ≠ 9218868437227405312 ∧ H ≠ -9218868437227405312) := by
  unfold Fq.snd
  rw [ple9 L H hL hH]
  have e1 : (pw L = 9218868437227405312) ↔ L = 9218868437227405312 := by
    have h := pw_inj L 9218868437227405312 hL (by unfold BdZ; omega)
    rw [pw_I] at h; exact h
  have e2 : (pw H = 18442240474082181120) ↔ H = -9218868437227405312 := by
    have h := pw_inj H (-9218868437227405312) hH (by unfold BdZ; omega)
    rw [pw_MI] at h; exact h
  simp only [e1, e2]
  by_cases c1 : L ≤ H <;> by_cases c2 : L = 9218868437227405312 <;> by_cases c3 : H = -9218868437227405312 <;> simp [c1, c2, c3]
theorem rlo_pw (L H : Int) (hL : BdZ L) (hH : BdZ H) : Fq.rlo (pw L) (pw H) = pw (if L ≤ H ∧ L ≠ 9218868437227405312 ∧ H ≠ -9218868437227405312 then L else 9218868437227405312) := by
  unfold Fq.rlo
  rw [snd_pw L H hL hH, pla_pw L hL]
  by_cases c : L ≤ H ∧ L ≠ 9218868437227405312 ∧ H ≠ -9218868437227405312
  · rw [if_pos c, if_pos (decide_eq_true c)]
  · rw [if_neg c, if_neg (by simpa using c), pw_I]
theorem rhi_pw (L H : Int) (hL : BdZ L) (hH : BdZ H) : Fq.rhi (pw L) (pw H) = pw (if L ≤ H ∧ L ≠ 9218868437227405312 ∧ H ≠ -9218868437227405312 then H else -9218868437227405312) := by
  unfold Fq.rhi
  rw [snd_pw L H hL hH, pla_pw H hH]
  by_cases c : L ≤ H ∧ L ≠ 9218868437227405312 ∧ H ≠ -9218868437227405312
  · rw [if_pos c, if_pos (decide_eq_true c)]
  · rw [if_neg c, if_neg (by simpa using c), pw_MI]
theorem read_pw (a b : Nat) (ha : a < 18446744073709551616) (hb : b < 18446744073709551616) : ∃ L H, VdZ L H ∧ Fq.rlo a b = pw L ∧ Fq.rhi a b = pw H := by
  by_cases c : Fq.snd a b = true
  · obtain ⟨n, m, hm, rfl⟩ := Fq.exD a ha
    obtain ⟨n', m', hm', rfl⟩ := Fq.exD b hb
    have es := Fq.snd_w n n' m m' hm hm'
    rw [c] at es
    have es := of_decide_eq_true es.symm
    have key : ∀ (g : Bool) (r : Nat), r ≤ 9218868437227405312 → pw (Fq.plz g r) = Fq.pla (Fq.wD g r) ∧ BdZ (Fq.plz g r) := by
      intro g r hr
      by_cases c2 : Fq.wD g r = 9223372036854775808
      · have hg : g = true ∧ r = 0 := by
          unfold Fq.wD at c2
          cases g
          · simp at c2; omega
          · simp at c2; exact ⟨rfl, c2⟩
        rw [c2, hg.1, hg.2]
        exact ⟨by decide, by unfold BdZ Fq.plz; simp⟩
      · have h := pw_plz g r c2 hr
        rw [show Fq.pla (Fq.wD g r) = Fq.wD g r from by simp [Fq.pla, c2]]
        exact h
    have k1 := key n m es.1
    have k2 := key n' m' es.2.1
    refine ⟨Fq.plz n m, Fq.plz n' m', Or.inr ?_, ?_, ?_⟩
    · have b1 := k1.2
      have b2 := k2.2
      unfold BdZ at b1 b2
      have e1 : Fq.plz n m ≠ 9218868437227405312 := by
        intro h
        apply es.2.2.2.1
        unfold Fq.plz at h
        cases n
        · simp at h; exact ⟨rfl, by omega⟩
        · simp at h; omega
      have e2 : Fq.plz n' m' ≠ -9218868437227405312 := by
        intro h
        apply es.2.2.2.2
        unfold Fq.plz at h
        cases n'
        · simp at h <;> omega
        · simp at h; exact ⟨rfl, by omega⟩
      have := es.2.2.1
      omega
    · rw [k1.1]; simp [Fq.rlo, c]
    · rw [k2.1]; simp [Fq.rhi, c]
  · refine ⟨9218868437227405312, -9218868437227405312, Or.inl ⟨rfl, rfl⟩, ?_, ?_⟩
    · rw [pw_I]; unfold Fq.rlo; rw [if_neg c]
    · rw [pw_MI]; unfold Fq.rhi; rw [if_neg c]
theorem reread9 (L H : Int) (h : VdZ L H) : Fq.rlo (pw L) (pw H) = pw L ∧ Fq.rhi (pw L) (pw H) = pw H := by
  rw [rlo_pw L H h.lo h.hi, rhi_pw L H h.lo h.hi]
  rcases h with ⟨rfl, rfl⟩ | h
  · exact ⟨by rw [if_neg (by omega)], by rw [if_neg (by omega)]⟩
  · exact ⟨by rw [if_pos (by omega)], by rw [if_pos (by omega)]⟩
theorem bd_min (x y : Int) (hx : BdZ x) (hy : BdZ y) : BdZ (min x y) := by unfold BdZ at *; omega
theorem min7_ (n n' : Bool) (m m' : Nat) (hm : m ≤ 9218868437227405312) (hm' : m' ≤ 9218868437227405312) (h1 : Fq.wD n m ≠ 9223372036854775808) (h2 : Fq.wD n' m' ≠ 9223372036854775808) (ts : Array TypeId) (t : TypeId) (w : World) : (Builtin.min_ ts t #[.float .f64 (Fq.wD n m), .float .f64 (Fq.wD n' m')]).run Tryz.prog w = .ok (.float .f64 (if Fq.plz n' m' < Fq.plz n m then Fq.wD n' m' else Fq.wD n m)) w := by
  have ho := Fq.ordD n n' m m' hm hm'
  rcases Int.lt_trichotomy (Fq.plz n m) (Fq.plz n' m') with g | g | g
  · rw [Fq.cmp_lt g] at ho
    rw [if_neg (by omega)]
    generalize Fq.wD n m = X at ho ⊢
    generalize Fq.wD n' m' = Y at ho ⊢
    simp [Builtin.min_, Builtin.min2, ho]
  · rw [Fq.cmp_eq g] at ho
    have e : Fq.wD n m = Fq.wD n' m' := by
      have z1 : n = true → m ≠ 0 := fun h z => h1 (by rw [h, z]; rfl)
      have z2 : n' = true → m' ≠ 0 := fun h z => h2 (by rw [h, z]; rfl)
      unfold Fq.wD
      unfold Fq.plz at g
      cases n <;> cases n' <;> simp at z1 z2 g ⊢ <;> omega
    rw [if_neg (by omega)]
    rw [← e] at ho ⊢
    generalize Fq.wD n m = X at ho ⊢
    simp [Builtin.min_, Builtin.min2, ho]
  · rw [Fq.cmp_gt g] at ho
    rw [if_pos (by omega)]
    generalize Fq.wD n m = X at ho ⊢
    generalize Fq.wD n' m' = Y at ho ⊢
    simp [Builtin.min_, Builtin.min2, ho]

def Rd (a b : Nat) (L H : Int) : Prop := a < 18446744073709551616 ∧ b < 18446744073709551616 ∧ VdZ L H ∧ Fq.rlo a b = pw L ∧ Fq.rhi a b = pw H
theorem Rd.ex (a b : Nat) (ha : a < 18446744073709551616) (hb : b < 18446744073709551616) : ∃ L H, Rd a b L H := by
  obtain ⟨L, H, h1, h2, h3⟩ := read_pw a b ha hb
  exact ⟨L, H, ha, hb, h1, h2, h3⟩
theorem Rd.of {L H : Int} (h : VdZ L H) : Rd (pw L) (pw H) L H := ⟨pw_lt L h.lo, pw_lt H h.hi, h, (reread9 L H h).1, (reread9 L H h).2⟩
theorem Rd.vd {a b : Nat} {L H : Int} (h : Rd a b L H) : VdZ L H := h.2.2.1
theorem Rd.call {a b : Nat} {L H : Int} (h : Rd a b L H) (w : World) : Calls Tryz.prog 15 #[.agg #[.float .f64 a, .float .f64 b]] w fun e w' => e = .returned (.agg #[.float .f64 (pw L), .float .f64 (pw H)]) ∧ Kp w w' := by
  have g := Fq.read_ a b h.1 h.2.1 w
  rw [h.2.2.2.1, h.2.2.2.2] at g
  exact g
theorem emp9 (L H : Int) (h : VdZ L H) : decide (pw L = 9218868437227405312 ∧ pw H = 18442240474082181120) = decide (L = 9218868437227405312) := by
  congr 1; apply propext
  have e1 := pw_inj L 9218868437227405312 h.lo (by unfold BdZ; omega)
  have e2 := pw_inj H (-9218868437227405312) h.hi (by unfold BdZ; omega)
  rw [pw_I] at e1
  rw [pw_MI] at e2
  rw [e1, e2]
  unfold VdZ at h
  omega
theorem void9_ (L H : Int) (h : VdZ L H) (w : World) : Calls Tryz.prog 16 #[.agg #[.float .f64 (pw L), .float .f64 (pw H)]] w fun e w' => e = .returned (.bool (decide (L = 9218868437227405312))) ∧ Kp w w' := by
  have g := Fq.void_ (pw L) (pw H) (pw_lt L h.lo) (pw_lt H h.hi) w
  rw [emp9 L H h] at g
  exact g
theorem min9_ (x y : Int) (hx : BdZ x) (hy : BdZ y) (ts : Array TypeId) (t : TypeId) (w : World) : (Builtin.min_ ts t #[.float .f64 (pw x), .float .f64 (pw y)]).run Tryz.prog w = .ok (.float .f64 (pw (min x y))) w := by
  have h := min7_ (decide (x < 0)) (decide (y < 0)) x.natAbs y.natAbs (abs_pw x hx) (abs_pw y hy) (pw_ne x hx) (pw_ne y hy) ts t w
  rw [plz_pw, plz_pw] at h
  have e : (if y < x then pw y else pw x) = pw (min x y) := by
    by_cases c : y < x
    · rw [if_pos c, show min x y = y from by omega]
    · rw [if_neg c, show min x y = x from by omega]
  exact e ▸ h

set_option linter.unusedVariables false
def pz (z : Int) : Nat := Fq.wD (decide (z < 0)) z.natAbs
def g53 (d : Int) (c1 c2 : Nat) (V : Int) : Int := gpl 53 2098 9218868437227405311 9218868437227405312 d c1 c2 V
theorem g53_mono (d : Int) (c1 c2 : Nat) (hc : 0 < c2) (V V' : Int) (h : V ≤ V') : g53 d c1 c2 V ≤ g53 d c1 c2 V' := gpl_mono 53 2098 9218868437227405311 9218868437227405312 d c1 c2 hc (by decide) (by decide) (by decide) (by decide) V V' h
theorem g53_le (d : Int) (c1 c2 : Nat) (V : Int) : -9218868437227405312 ≤ g53 d c1 c2 V ∧ g53 d c1 c2 V ≤ 9218868437227405312 := gpl_le 53 2098 9218868437227405311 9218868437227405312 d c1 c2 (by decide) (by decide) (by decide) (by decide) V
theorem mdW_pz (s : Bool) (M : Nat) : mdW s M = pz (if s then -(M : Int) else M) := by
  unfold mdW pz Fq.wD
  by_cases z : M = 0
  · rw [if_pos z, z]; cases s <;> simp
  · rw [if_neg z]
    cases s
    · simp <;> omega
    · simp <;> omega
theorem rV_neg (d : Int) (A K : Nat) : rV d 53 A 1 (-(K : Int)) = rU d 53 (A * 1) (2 ^ K) := by
  unfold rV
  rw [show (-(K : Int)).toNat = 0 from by omega, show (- -(K : Int)).toNat = K from by omega, Nat.pow_zero, Nat.one_mul]
theorem fmaW_g (K : Nat) (hK : K = 1074) (d V : Int) : fmaW d V = pz (g53 d 1 (2 ^ K) V) := by
  unfold fmaW g53 gpl
  rw [show (-1074 : Int) = -(K : Int) from by omega]
  by_cases z : V = 0
  · rw [if_pos z, if_pos z]; rfl
  · rw [if_neg z, if_neg z, mdW_pz, rV_neg]
    by_cases n : V < 0
    · rw [if_pos n, decide_eq_true n]; rfl
    · rw [if_neg n, decide_eq_false n]; rfl
set_option linter.unusedVariables false
theorem fmaG_ (K : Nat) (hK : K = 1074) (d : Int) (n n' nz : Bool) (m m' mz : Nat) (hm : m < 9218868437227405312) (hm' : m' < 9218868437227405312) (hmz : mz < 9218868437227405312) (hd1 : -9223372036854775808 ≤ d) (hd2 : d < 9223372036854775808) (w : World) (hT : Tab w) (hQ : Fq.Tab w) : Calls Tryz.prog 50 #[.int .i64 d, .float .f64 (Fq.wD n m), .float .f64 (Fq.wD n' m'), .float .f64 (Fq.wD nz mz)] w fun e w' => e = .returned (.float .f64 (pz (g53 d 1 (2 ^ K) (Iv n m * Iv n' m' + Iv nz mz * ((2 ^ K : Nat) : Int))))) ∧ Kp w w' := by
  rw [← fmaW_g K hK]
  by_cases ct : (2580562586483294208 ≤ m ∧ m ≤ 6633802251116740608) ∧ (2580562586483294208 ≤ m' ∧ m' ≤ 6633802251116740608) ∧ mz ≤ 9110782046170513408
  · exact pfmaQ_ d n n' nz m m' mz ct.1 ct.2.1 ct.2.2 K hK w hT hQ hd1 hd2
  · exact pfmaE_ d n n' nz m m' mz hm hm' hmz ct K hK w hT hQ hd1 hd2

set_option linter.unusedVariables false
theorem gpl_neg (p T G I : Nat) (d : Int) (c1 c2 : Nat) (V : Int) : gpl p T G I (-d) c1 c2 (-V) = -(gpl p T G I d c1 c2 V) := by
  unfold gpl
  have e1 : dirN true (-d) = dirN false d := by unfold dirN; simp
  have e2 : dirN false (-d) = dirN true d := by unfold dirN; simp
  rw [e1, e2, Int.natAbs_neg]
  by_cases z : V = 0
  · rw [if_pos (show -V = 0 by omega), if_pos z]; rfl
  · rw [if_neg (show ¬ -V = 0 by omega), if_neg z]
    by_cases n : V < 0
    · rw [if_pos n, if_neg (show ¬ -V < 0 by omega)]; omega
    · rw [if_neg n, if_pos (show -V < 0 by omega)]
theorem g53_neg (d : Int) (c1 c2 : Nat) (V : Int) : g53 (-d) c1 c2 (-V) = -(g53 d c1 c2 V) := gpl_neg _ _ _ _ d c1 c2 V
theorem iv_nt (n : Bool) (m : Nat) : Iv (!n) m = -Iv n m := by rw [iv_not]
def zc (o : Option Int) : Nat := match o with | none => 9221120237041090561 | some z => pz z
def sgI (n : Bool) : Int := if n then -9218868437227405312 else 9218868437227405312
theorem sgI_not (n : Bool) : sgI (!n) = -sgI n := by cases n <;> rfl
def oM (K : Nat) (d : Int) (n : Bool) (m : Nat) (n' : Bool) (m' : Nat) : Option Int := if 9218868437227405312 < m ∨ 9218868437227405312 < m' ∨ (m = 9218868437227405312 ∧ m' = 0) ∨ (m = 0 ∧ m' = 9218868437227405312) then none else if m = 9218868437227405312 ∨ m' = 9218868437227405312 then some (sgI (n ^^ n')) else some (g53 d 1 (2 ^ K) (Iv n m * Iv n' m'))
def oF (K : Nat) (d : Int) (n : Bool) (m : Nat) (n' : Bool) (m' : Nat) (nz : Bool) (mz : Nat) : Option Int := if m < 9218868437227405312 ∧ m' < 9218868437227405312 then (if mz < 9218868437227405312 then some (g53 d 1 (2 ^ K) (Iv n m * Iv n' m' + Iv nz mz * ((2 ^ K : Nat) : Int))) else if 9218868437227405312 < mz then none else some (sgI nz)) else if 9218868437227405312 < m ∨ 9218868437227405312 < m' ∨ (m = 9218868437227405312 ∧ m' = 0) ∨ (m = 0 ∧ m' = 9218868437227405312) then none else if 9218868437227405312 < mz ∨ (mz = 9218868437227405312 ∧ (n ^^ n') ≠ nz) then none else some (sgI (n ^^ n'))
def ng (o : Option Int) : Option Int := o.map (fun z => -z)
theorem xor_not9 (n n' : Bool) : ((!n) ^^ n') = !(n ^^ n') := by cases n <;> cases n' <;> rfl
theorem oM_mir (K : Nat) (d : Int) (n : Bool) (m : Nat) (n' : Bool) (m' : Nat) : oM K (-d) (!n) m n' m' = ng (oM K d n m n' m') := by
  unfold oM
  rw [xor_not9, sgI_not, iv_nt, Int.neg_mul, g53_neg]
  by_cases c1 : 9218868437227405312 < m ∨ 9218868437227405312 < m' ∨ (m = 9218868437227405312 ∧ m' = 0) ∨ (m = 0 ∧ m' = 9218868437227405312)
  · rw [if_pos c1, if_pos c1]; rfl
  rw [if_neg c1, if_neg c1]
  by_cases c2 : m = 9218868437227405312 ∨ m' = 9218868437227405312
  · rw [if_pos c2, if_pos c2]; rfl
  rw [if_neg c2, if_neg c2]; rfl
theorem bad_sym (m m' : Nat) : (9218868437227405312 < m ∨ 9218868437227405312 < m' ∨ (m = 9218868437227405312 ∧ m' = 0) ∨ (m = 0 ∧ m' = 9218868437227405312)) ↔ (9218868437227405312 < m' ∨ 9218868437227405312 < m ∨ (m' = 9218868437227405312 ∧ m = 0) ∨ (m' = 0 ∧ m = 9218868437227405312)) := by omega
theorem oM_sym (K : Nat) (d : Int) (n : Bool) (m : Nat) (n' : Bool) (m' : Nat) : oM K d n m n' m' = oM K d n' m' n m := by
  unfold oM
  rw [Int.mul_comm (Iv n' m') (Iv n m), show (n' ^^ n) = (n ^^ n') from by cases n <;> cases n' <;> rfl]
  simp only [bad_sym m m', Or.comm (a := m = 9218868437227405312) (b := m' = 9218868437227405312)]
theorem oF_sym (K : Nat) (d : Int) (n : Bool) (m : Nat) (n' : Bool) (m' : Nat) (nz : Bool) (mz : Nat) : oF K d n m n' m' nz mz = oF K d n' m' n m nz mz := by
  unfold oF
  rw [Int.mul_comm (Iv n' m') (Iv n m), show (n' ^^ n) = (n ^^ n') from by cases n <;> cases n' <;> rfl]
  simp only [bad_sym m m', And.comm (a := m < 9218868437227405312) (b := m' < 9218868437227405312)]
theorem sgI_le (n : Bool) : -9218868437227405312 ≤ sgI n ∧ sgI n ≤ 9218868437227405312 := by cases n <;> decide
def okO (o : Option Int) : Prop := ∀ z, o = some z → -9218868437227405312 ≤ z ∧ z ≤ 9218868437227405312
theorem ok_some (z : Int) (h : -9218868437227405312 ≤ z ∧ z ≤ 9218868437227405312) : okO (some z) := fun y e => by cases e; exact h
theorem ok_none : okO none := fun y e => by cases e
theorem okM (K : Nat) (d : Int) (n : Bool) (m : Nat) (n' : Bool) (m' : Nat) : okO (oM K d n m n' m') := by
  unfold oM
  split
  · exact ok_none
  · split
    · exact ok_some _ (sgI_le _)
    · exact ok_some _ (g53_le _ _ _ _)
theorem okF (K : Nat) (d : Int) (n : Bool) (m : Nat) (n' : Bool) (m' : Nat) (nz : Bool) (mz : Nat) : okO (oF K d n m n' m' nz mz) := by
  unfold oF
  split
  · split
    · exact ok_some _ (g53_le _ _ _ _)
    · split
      · exact ok_none
      · exact ok_some _ (sgI_le _)
  · split
    · exact ok_none
    · split
      · exact ok_none
      · exact ok_some _ (sgI_le _)
theorem wD_sg (n : Bool) : Fq.wD n 9218868437227405312 = pz (sgI n) := by cases n <;> decide

set_option linter.unusedVariables false
def sN (z : Int) : Bool := decide (z < 0)
theorem sN_neg (z : Int) (h : z ≠ 0) : sN (-z) = !(sN z) := by
  unfold sN
  by_cases c : z < 0
  · rw [decide_eq_true c, decide_eq_false (by omega)]; rfl
  · rw [decide_eq_false c, decide_eq_true (by omega)]; rfl
def muZ (K : Nat) (d x y : Int) : Int := (oM K d (sN x) x.natAbs (sN y) y.natAbs).getD 0
def fuZ (K : Nat) (d x y e : Int) : Int := (oF K d (sN x) x.natAbs (sN y) y.natAbs (sN e) e.natAbs).getD 0
theorem okD0 {o : Option Int} (h : okO o) : BdZ (o.getD 0) := by
  unfold BdZ
  cases o with
  | none => simp
  | some z => exact h z rfl
theorem muZ_bd (K : Nat) (d x y : Int) : BdZ (muZ K d x y) := okD0 (okM _ _ _ _ _ _)
theorem fuZ_bd (K : Nat) (d x y e : Int) : BdZ (fuZ K d x y e) := okD0 (okF _ _ _ _ _ _ _ _)
theorem muZ_sym (K : Nat) (d x y : Int) : muZ K d x y = muZ K d y x := by unfold muZ; rw [oM_sym]
theorem fuZ_sym (K : Nat) (d x y e : Int) : fuZ K d x y e = fuZ K d y x e := by unfold fuZ; rw [oF_sym]
theorem muZ_neg (K : Nat) (d x y : Int) (hx : x ≠ 0) (hy : y ≠ 0) : muZ K d (-x) y = muZ K d x (-y) := by
  unfold muZ
  rw [sN_neg x hx, sN_neg y hy, Int.natAbs_neg, Int.natAbs_neg]
  have h1 := oM_mir K (-d) (sN x) x.natAbs (sN y) y.natAbs
  have h2 := oM_mir K (-d) (sN y) y.natAbs (sN x) x.natAbs
  rw [Int.neg_neg] at h1 h2
  rw [h1, oM_sym K d (sN x) x.natAbs (!(sN y)), h2, oM_sym K (-d) (sN y) y.natAbs]
theorem oF_neg (K : Nat) (d : Int) (n : Bool) (m : Nat) (n' : Bool) (m' : Nat) (nz : Bool) (mz : Nat) : oF K d (!n) m n' m' nz mz = oF K d n m (!n') m' nz mz := by
  unfold oF
  rw [iv_nt, iv_nt, Int.neg_mul, Int.mul_neg, show ((!n) ^^ n') = (n ^^ (!n')) from by cases n <;> cases n' <;> rfl]
theorem fuZ_neg (K : Nat) (d x y e : Int) (hx : x ≠ 0) (hy : y ≠ 0) : fuZ K d (-x) y e = fuZ K d x (-y) e := by
  unfold fuZ
  rw [sN_neg x hx, sN_neg y hy, Int.natAbs_neg, Int.natAbs_neg, oF_neg]
def prZ (K : Nat) (x y : Int) : Int := if x = 0 ∨ y = 0 then 0 else muZ K (-1) x y
def fmZ (K : Nat) (e x y : Int) : Int := if x = 0 ∨ y = 0 then e else fuZ K (-1) x y e
theorem prZ_sym (K : Nat) (x y : Int) : prZ K x y = prZ K y x := by
  unfold prZ
  rw [muZ_sym]
  by_cases c : x = 0 ∨ y = 0
  · rw [if_pos c, if_pos (by omega)]
  · rw [if_neg c, if_neg (by omega)]
theorem prZ_neg (K : Nat) (x y : Int) : prZ K (-x) y = prZ K x (-y) := by
  unfold prZ
  by_cases c : x = 0 ∨ y = 0
  · rw [if_pos (by omega), if_pos (by omega)]
  · rw [if_neg (by omega), if_neg (by omega), muZ_neg K _ _ _ (by omega) (by omega)]
theorem fmZ_sym (K : Nat) (e x y : Int) : fmZ K e x y = fmZ K e y x := by
  unfold fmZ
  rw [fuZ_sym]
  by_cases c : x = 0 ∨ y = 0
  · rw [if_pos c, if_pos (by omega)]
  · rw [if_neg c, if_neg (by omega)]
theorem fmZ_neg (K : Nat) (e x y : Int) : fmZ K e (-x) y = fmZ K e x (-y) := by
  unfold fmZ
  by_cases c : x = 0 ∨ y = 0
  · rw [if_pos (by omega), if_pos (by omega)]
  · rw [if_neg (by omega), if_neg (by omega), fuZ_neg K _ _ _ _ (by omega) (by omega)]
theorem prZ_bd (K : Nat) (x y : Int) : BdZ (prZ K x y) := by
  unfold prZ
  split
  · unfold BdZ; omega
  · exact muZ_bd _ _ _ _
theorem fmZ_bd (K : Nat) (e x y : Int) (he : BdZ e) : BdZ (fmZ K e x y) := by
  unfold fmZ
  split
  · exact he
  · exact fuZ_bd _ _ _ _ _
def lst (f : Int → Int → Int) (L1 H1 L2 H2 : Int) : Int := if L1 < 0 ∧ 0 < H1 ∧ L2 < 0 ∧ 0 < H2 then min (f H1 L2) (f L1 H2) else if L1 < 0 ∧ 0 < H2 then f L1 H2 else if 0 < H1 ∧ L2 < 0 then f H1 L2 else if H1 ≤ 0 ∧ H2 ≤ 0 then f H1 H2 else f L1 L2
theorem lst_bd (f : Int → Int → Int) (hf : ∀ x y, BdZ (f x y)) (L1 H1 L2 H2 : Int) : BdZ (lst f L1 H1 L2 H2) := by
  unfold lst
  repeat' split
  · exact bd_min _ _ (hf _ _) (hf _ _)
  all_goals exact hf _ _
set_option linter.unusedVariables false
def IsO (o : Option Int) (R : Nat) : Prop := ∀ z, o = some z → R = pz z
theorem bitsP_ (z : Int) (h : -9218868437227405312 ≤ z ∧ z ≤ 9218868437227405312) : IsO (some z) (pz z) := fun y e => by cases e; rfl
theorem bitsI_ (n : Bool) : IsO (some (sgI n)) (Fq.wD n 9218868437227405312) := fun y e => by cases e; exact wD_sg n
theorem bitsQ_ (R : Nat) (h1 : 9218868437227405312 < R % 9223372036854775808) (h2 : R < 18446744073709551616) : IsO none R := fun y e => by cases e
theorem fmaO_ (K : Nat) (hK : K = 1074) (d : Int) (n n' nz : Bool) (m m' mz : Nat) (hm : m < 9223372036854775808) (hm' : m' < 9223372036854775808) (hmz : mz < 9223372036854775808) (hd1 : -9223372036854775808 ≤ d) (hd2 : d < 9223372036854775808) (w : World) (hT : Tab w) (hQ : Fq.Tab w) : Calls Tryz.prog 50 #[.int .i64 d, .float .f64 (Fq.wD n m), .float .f64 (Fq.wD n' m'), .float .f64 (Fq.wD nz mz)] w fun e w' => ∃ R, e = .returned (.float .f64 R) ∧ IsO (oF K d n m n' m' nz mz) R ∧ Kp w w' := by
  by_cases hi : m < 9218868437227405312 ∧ m' < 9218868437227405312
  · by_cases c3 : mz < 9218868437227405312
    · have e : oF K d n m n' m' nz mz = some (g53 d 1 (2 ^ K) (Iv n m * Iv n' m' + Iv nz mz * ((2 ^ K : Nat) : Int))) := by unfold oF; rw [if_pos hi, if_pos c3]
      rw [e]
      exact (fmaG_ K hK d n n' nz m m' mz hi.1 hi.2 c3 hd1 hd2 w hT hQ).mono fun e w' h => ⟨_, h.1, bitsP_ _ (g53_le _ _ _ _), h.2⟩
    · have hz := pfmaZ_ d n n' nz m m' mz hm hm' hmz hi.1 hi.2 c3 w
      by_cases c4 : 9218868437227405312 < mz
      · have e : oF K d n m n' m' nz mz = none := by unfold oF; rw [if_pos hi, if_neg c3, if_pos c4]
        rw [e]
        exact hz.mono fun e w' h => ⟨_, h.1, bitsQ_ _ (by unfold Fq.wD; cases nz <;> simp <;> omega) (by unfold Fq.wD; cases nz <;> simp <;> omega), h.2⟩
      · have e : oF K d n m n' m' nz mz = some (sgI nz) := by unfold oF; rw [if_pos hi, if_neg c3, if_neg c4]
        rw [e]
        rw [show mz = 9218868437227405312 from by omega] at hz ⊢
        exact hz.mono fun e w' h => ⟨_, h.1, bitsI_ _, h.2⟩
  · by_cases hb : badP m m'
    · have e : oF K d n m n' m' nz mz = none := by have hb2 := hb; unfold badP at hb2; unfold oF; rw [if_neg hi, if_pos hb2]
      rw [e]
      obtain ⟨RP, p1, p2, hrun⟩ := run_nan_mul _ _ (mul_bad n n' m m' hm hm' hb) w
      have hadd : FloatKind.f64.format.add RP (Fq.wD nz mz) = none := by
        obtain ⟨a, b, hb9, hR⟩ := word_of RP p2
        rw [hR]
        exact add_bad a nz b mz (by omega) hmz (Or.inl (by omega))
      obtain ⟨RR, p3, p4, hrun2⟩ := run_nan _ _ hadd w.drew
      exact (pfmaI_ d n n' nz m m' mz hm hm' hmz hi w w.drew w.drew.drew RP RR hrun hrun2 (Kp.refl _).drew.drew).mono fun e w' h => ⟨RR, h.1, bitsQ_ RR p3 p4, h.2⟩
    · have hmi := mul_inf n n' m m' hb hi
      by_cases hs : badS (n ^^ n') 9218868437227405312 nz mz
      · have e : oF K d n m n' m' nz mz = none := by
          unfold oF
          unfold badP at hb
          rw [if_neg hi, if_neg hb, if_pos (by unfold badS at hs; rcases hs with h | h | h; omega; exact Or.inl h; exact Or.inr ⟨h.2.1, h.2.2⟩)]
        rw [e]
        obtain ⟨RR, p3, p4, hrun2⟩ := run_nan _ _ (add_bad (n ^^ n') nz 9218868437227405312 mz (by decide) hmz hs) w
        exact (pfmaI_ d n n' nz m m' mz hm hm' hmz hi w w w.drew _ RR (run_float_arith w .mul 26 .f64 _ _ _ hmi) hrun2 (Kp.refl _).drew).mono fun e w' h => ⟨RR, h.1, bitsQ_ RR p3 p4, h.2⟩
      · have e : oF K d n m n' m' nz mz = some (sgI (n ^^ n')) := by
          unfold oF
          unfold badP at hb
          rw [if_neg hi, if_neg hb, if_neg (fun h => hs (by unfold badS; rcases h with h | h; exact Or.inr (Or.inl h); exact Or.inr (Or.inr ⟨rfl, h.1, h.2⟩)))]
        rw [e]
        have ha := add_inf (n ^^ n') nz 9218868437227405312 mz hs (by omega)
        rw [if_pos rfl] at ha
        exact (pfmaI_ d n n' nz m m' mz hm hm' hmz hi w w w _ _ (run_float_arith w .mul 26 .f64 _ _ _ hmi) (run_float_arith w .add 26 .f64 _ _ _ ha) (Kp.refl _)).mono fun e w' h => ⟨_, h.1, bitsI_ _, h.2⟩

theorem aI (z : Int) (h : BdZ z) : z.natAbs < 9223372036854775808 := by unfold BdZ at h; omega
def TT (w : World) : Prop := Tab w ∧ Fq.Tab w
theorem TT.kp {w w' : World} (h : TT w) (g : Kp w w') : TT w' := ⟨h.1.grown g, h.2.grown g⟩
theorem fmaP_ (K : Nat) (hK : K = 1074) (d x y e : Int) (hd1 : -9223372036854775808 ≤ d) (hd2 : d < 9223372036854775808) (hx : BdZ x) (hy : BdZ y) (he : BdZ e) (zx : x ≠ 0) (zy : y ≠ 0) (hb : ((x = 9218868437227405312 ∨ x = -9218868437227405312) ∨ (y = 9218868437227405312 ∨ y = -9218868437227405312)) → (e = 9218868437227405312 ∨ e = -9218868437227405312) → ((x < 0 ↔ y < 0) ↔ 0 < e)) (w : World) (hT : TT w) : Calls Tryz.prog 50 #[.int .i64 d, .float .f64 (pw x), .float .f64 (pw y), .float .f64 (pw e)] w fun v w' => v = .returned (.float .f64 (pw (fuZ K d x y e))) ∧ Kp w w' := by
  have h := fmaO_ K hK d (sN x) (sN y) (sN e) x.natAbs y.natAbs e.natAbs (aI x hx) (aI y hy) (aI e he) hd1 hd2 w hT.1 hT.2
  refine h.mono ?_
  rintro v w' ⟨R, rfl, hR, k⟩
  have hz : ∃ z, oF K d (sN x) x.natAbs (sN y) y.natAbs (sN e) e.natAbs = some z := by
    unfold oF
    unfold BdZ at hx hy he
    by_cases c1 : x.natAbs < 9218868437227405312 ∧ y.natAbs < 9218868437227405312
    · rw [if_pos c1]
      by_cases c2 : e.natAbs < 9218868437227405312
      · rw [if_pos c2]; exact ⟨_, rfl⟩
      · rw [if_neg c2, if_neg (by omega)]; exact ⟨_, rfl⟩
    · rw [if_neg c1, if_neg (by omega), if_neg (by
        rintro (q | ⟨q1, q2⟩)
        · omega
        · apply q2
          have h3 := hb (by omega) (by omega)
          unfold sN
          by_cases c3 : x < 0
          · by_cases c4 : y < 0
            · rw [decide_eq_true c3, decide_eq_true c4, decide_eq_false (by have := h3.1 ⟨fun _ => c4, fun _ => c3⟩; omega)]; rfl
            · rw [decide_eq_true c3, decide_eq_false c4, decide_eq_true (by
                have : ¬ 0 < e := fun h5 => c4 ((h3.2 h5).1 c3)
                omega)]; rfl
          · by_cases c4 : y < 0
            · rw [decide_eq_false c3, decide_eq_true c4, decide_eq_true (by
                have : ¬ 0 < e := fun h5 => c3 ((h3.2 h5).2 c4)
                omega)]; rfl
            · rw [decide_eq_false c3, decide_eq_false c4, decide_eq_false (by have := h3.1 ⟨fun h5 => absurd h5 c3, fun h5 => absurd h5 c4⟩; omega)]; rfl)]
      exact ⟨_, rfl⟩
  obtain ⟨z, hz⟩ := hz
  refine ⟨?_, k⟩
  rw [hR z hz]
  unfold fuZ
  rw [hz]; rfl

def H6 (w : World) (B : Nat) (a b c d e f : Value) : Prop := Fq.H2 w B a b ∧ Fq.H2 w (B + 1) c d ∧ Fq.H2 w (B + 2) e f
theorem H6.keep {W w : World} {B : Nat} {a b c d e f : Value} (h : H6 W B a b c d e f) (g : Kp W w) : H6 w B a b c d e f := ⟨Fq.H2.keep h.1 g, Fq.H2.keep h.2.1 g, Fq.H2.keep h.2.2 g⟩
theorem H6.new (w : World) (a b c d e f : Value) (s t u : TypeId) : H6 (((w.alloc (.cells #[a, b] s)).alloc (.cells #[c, d] t)).alloc (.cells #[e, f] u)) w.heap.size a b c d e f := by
  refine ⟨?_, ?_, ?_⟩ <;> (unfold Fq.H2; simp [go_sem])
theorem H6.put {w : World} {B : Nat} {a b c d e f : Value} (h : H6 w B a b c d e f) (a' b' c' d' : Value) : H6 ((((w.setCell ⟨B, 0, none⟩ a').setCell ⟨B, 1, none⟩ b').setCell ⟨B + 1, 0, none⟩ c').setCell ⟨B + 1, 1, none⟩ d') B a' b' c' d' e f := by
  refine ⟨?_, ?_, ?_⟩
  · exact Fq.H2.far (Fq.H2.put h.1 a' b') (by omega) c' d'
  · exact Fq.H2.put (Fq.H2.far h.2.1 (by omega) a' b') c' d'
  · exact Fq.H2.far (Fq.H2.far h.2.2 (by omega) a' b') (by omega) c' d'
end Go.Proofs.YtinohggonicjhaaGreatDoor
