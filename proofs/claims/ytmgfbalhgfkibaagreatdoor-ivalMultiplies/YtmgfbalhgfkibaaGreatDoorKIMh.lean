import Derived.Test.YtmgfbalhgfkibaaGreatDoorKU5
namespace Go.Proofs.YtmgfbalhgfkibaaGreatDoor
open Go.RowKit

def H9c (w : World) (b : Nat) (v0 v1 v2 v3 v4 v5 v6 v7 v8 : Value) : Prop := w.cell? ⟨b, 0, none⟩ = some v0 ∧ w.cell? ⟨b, 1, none⟩ = some v1 ∧ w.cell? ⟨b, 2, none⟩ = some v2 ∧ w.cell? ⟨b, 3, none⟩ = some v3 ∧ w.cell? ⟨b, 4, none⟩ = some v4 ∧ w.cell? ⟨b, 5, none⟩ = some v5 ∧ w.cell? ⟨b, 6, none⟩ = some v6 ∧ w.cell? ⟨b, 7, none⟩ = some v7 ∧ w.cell? ⟨b, 8, none⟩ = some v8 ∧ w.frozen? ⟨b, 0, none⟩ = false ∧ w.frozen? ⟨b, 1, none⟩ = false ∧ w.frozen? ⟨b, 2, none⟩ = false ∧ w.frozen? ⟨b, 3, none⟩ = false ∧ w.frozen? ⟨b, 4, none⟩ = false ∧ w.frozen? ⟨b, 5, none⟩ = false ∧ w.frozen? ⟨b, 6, none⟩ = false ∧ w.frozen? ⟨b, 7, none⟩ = false ∧ w.frozen? ⟨b, 8, none⟩ = false
theorem H9c.keep {W w : World} {b : Nat} {v0 v1 v2 v3 v4 v5 v6 v7 v8 : Value} (h : H9c W b v0 v1 v2 v3 v4 v5 v6 v7 v8) (g : Kp W w) : H9c w b v0 v1 v2 v3 v4 v5 v6 v7 v8 := by
  obtain ⟨h0, h1, h2, h3, h4, h5, h6, h7, h8, h9, h10, h11, h12, h13, h14, h15, h16, h17⟩ := h
  exact ⟨kkeep g h0, kkeep g h1, kkeep g h2, kkeep g h3, kkeep g h4, kkeep g h5, kkeep g h6, kkeep g h7, kkeep g h8, (kfro g (cell_lt h0)).trans h9, (kfro g (cell_lt h0)).trans h10, (kfro g (cell_lt h0)).trans h11, (kfro g (cell_lt h0)).trans h12, (kfro g (cell_lt h0)).trans h13, (kfro g (cell_lt h0)).trans h14, (kfro g (cell_lt h0)).trans h15, (kfro g (cell_lt h0)).trans h16, (kfro g (cell_lt h0)).trans h17⟩
theorem H9c.new (w : World) (v0 v1 v2 v3 v4 v5 v6 v7 v8 : Value) (t : TypeId) : H9c (w.alloc (.cells #[v0, v1, v2, v3, v4, v5, v6, v7, v8] t)) w.heap.size v0 v1 v2 v3 v4 v5 v6 v7 v8 := by
  unfold H9c; simp [go_sem]
theorem H9c.lt {w : World} {b : Nat} {v0 v1 v2 v3 v4 v5 v6 v7 v8 : Value} (h : H9c w b v0 v1 v2 v3 v4 v5 v6 v7 v8) : b < w.heap.size := cell_lt h.1
set_option maxRecDepth 20000 in
set_option maxHeartbeats 1000000 in
theorem H9c.put {w : World} {b : Nat} {v0 v1 v2 v3 v4 v5 v6 v7 v8 : Value} (h : H9c w b v0 v1 v2 v3 v4 v5 v6 v7 v8) (u0 u1 u2 u3 u4 u5 u6 u7 u8 : Value) : H9c ((((((((((w.setCell ⟨b, 0, none⟩ u0).setCell ⟨b, 1, none⟩ u1).setCell ⟨b, 2, none⟩ u2).setCell ⟨b, 3, none⟩ u3).setCell ⟨b, 4, none⟩ u4).setCell ⟨b, 5, none⟩ u5).setCell ⟨b, 6, none⟩ u6).setCell ⟨b, 7, none⟩ u7).setCell ⟨b, 8, none⟩ u8)) b u0 u1 u2 u3 u4 u5 u6 u7 u8 := by
  obtain ⟨h0, h1, h2, h3, h4, h5, h6, h7, h8, h9, h10, h11, h12, h13, h14, h15, h16, h17⟩ := h
  unfold H9c; simp [go_sem, h0, h1, h2, h3, h4, h5, h6, h7, h8, h9, h10, h11, h12, h13, h14, h15, h16, h17]
theorem H9c.far1 {w : World} {b : Nat} {v0 v1 v2 v3 v4 v5 v6 v7 v8 : Value} (h : H9c w b v0 v1 v2 v3 v4 v5 v6 v7 v8) (x : Addr) (hne : x.block ≠ b) (u : Value) : H9c (w.setCell x u) b v0 v1 v2 v3 v4 v5 v6 v7 v8 := by
  obtain ⟨h0, h1, h2, h3, h4, h5, h6, h7, h8, h9, h10, h11, h12, h13, h14, h15, h16, h17⟩ := h
  exact ⟨(World.cell?_setCell_far _ _ _ _ hne).trans h0, (World.cell?_setCell_far _ _ _ _ hne).trans h1, (World.cell?_setCell_far _ _ _ _ hne).trans h2, (World.cell?_setCell_far _ _ _ _ hne).trans h3, (World.cell?_setCell_far _ _ _ _ hne).trans h4, (World.cell?_setCell_far _ _ _ _ hne).trans h5, (World.cell?_setCell_far _ _ _ _ hne).trans h6, (World.cell?_setCell_far _ _ _ _ hne).trans h7, (World.cell?_setCell_far _ _ _ _ hne).trans h8, (World.frozen?_setCell _ _ _ _).trans h9, (World.frozen?_setCell _ _ _ _).trans h10, (World.frozen?_setCell _ _ _ _).trans h11, (World.frozen?_setCell _ _ _ _).trans h12, (World.frozen?_setCell _ _ _ _).trans h13, (World.frozen?_setCell _ _ _ _).trans h14, (World.frozen?_setCell _ _ _ _).trans h15, (World.frozen?_setCell _ _ _ _).trans h16, (World.frozen?_setCell _ _ _ _).trans h17⟩

def pw (z : Int) : Nat := Fq.wD (decide (z < 0)) z.natAbs
def BdZ (z : Int) : Prop := -9218868437227405312 ≤ z ∧ z ≤ 9218868437227405312
theorem plz_pw (z : Int) : Fq.plz (decide (z < 0)) z.natAbs = z := by
  unfold Fq.plz
  by_cases c : z < 0 <;> simp [c] <;> omega
theorem abs_pw (z : Int) (h : BdZ z) : z.natAbs ≤ 9218868437227405312 := by unfold BdZ at h; omega
theorem pw_lt (z : Int) (h : BdZ z) : pw z < 18446744073709551616 := by
  have := abs_pw z h
  unfold pw Fq.wD; split <;> omega
theorem pw_ne (z : Int) (h : BdZ z) : pw z ≠ 9223372036854775808 := by
  have h2 := abs_pw z h
  unfold pw Fq.wD
  by_cases c : z < 0 <;> simp [c] <;> omega
theorem pla_pw (z : Int) (h : BdZ z) : Fq.pla (pw z) = pw z := by unfold Fq.pla; rw [if_neg (pw_ne z h)]
theorem pw_I : pw 9218868437227405312 = 9218868437227405312 := by decide
theorem pw_MI : pw (-9218868437227405312) = 18442240474082181120 := by decide
theorem ord_pw (x y : Int) (hx : BdZ x) (hy : BdZ y) : FloatKind.f64.format.order (pw x) (pw y) = some (compare x y) := by
  have h := Fq.ordD (decide (x < 0)) (decide (y < 0)) x.natAbs y.natAbs (abs_pw x hx) (abs_pw y hy)
  rw [plz_pw, plz_pw] at h
  exact h
theorem plt9 (x y : Int) (hx : BdZ x) (hy : BdZ y) : (FloatKind.f64.format.order (pw x) (pw y) == some Ordering.lt) = decide (x < y) := by
  rw [ord_pw x y hx hy]
  rcases Int.lt_trichotomy x y with g | g | g
  · rw [Fq.cmp_lt g, decide_eq_true g]; rfl
  · rw [Fq.cmp_eq g, decide_eq_false (by omega)]; rfl
  · rw [Fq.cmp_gt g, decide_eq_false (by omega)]; rfl
theorem pgt9 (x y : Int) (hx : BdZ x) (hy : BdZ y) : (FloatKind.f64.format.order (pw x) (pw y) == some Ordering.gt) = decide (y < x) := by
  rw [ord_pw x y hx hy]
  rcases Int.lt_trichotomy x y with g | g | g
  · rw [Fq.cmp_lt g, decide_eq_false (by omega)]; rfl
  · rw [Fq.cmp_eq g, decide_eq_false (by omega)]; rfl
  · rw [Fq.cmp_gt g, decide_eq_true g]; rfl
theorem peq9 (x y : Int) (hx : BdZ x) (hy : BdZ y) : (FloatKind.f64.format.order (pw x) (pw y) == some Ordering.eq) = decide (x = y) := by
  rw [ord_pw x y hx hy]
  rcases Int.lt_trichotomy x y with g | g | g
  · rw [Fq.cmp_lt g, decide_eq_false (by omega)]; rfl
  · rw [Fq.cmp_eq g, decide_eq_true g]; rfl
  · rw [Fq.cmp_gt g, decide_eq_false (by omega)]; rfl
theorem ple9 (x y : Int) (hx : BdZ x) (hy : BdZ y) : (FloatKind.f64.format.order (pw x) (pw y) == some Ordering.lt || FloatKind.f64.format.order (pw x) (pw y) == some Ordering.eq) = decide (x ≤ y) := by
  rw [plt9 x y hx hy, peq9 x y hx hy]
  by_cases c : x < y <;> by_cases c2 : x = y <;> simp [c, c2] <;> omega
theorem pw_inj (x y : Int) (hx : BdZ x) (hy : BdZ y) : pw x = pw y ↔ x = y := by
  constructor
  · intro h
    have e := peq9 x y hx hy
    have e2 := peq9 y y hy hy
    rw [h, e2] at e
    by_cases c : x = y
    · exact c
    · simp [c] at e
  · intro h; rw [h]
def VdZ (L H : Int) : Prop := (L = 9218868437227405312 ∧ H = -9218868437227405312) ∨ (-9218868437227405312 ≤ L ∧ L < 9218868437227405312 ∧ -9218868437227405312 < H ∧ H ≤ 9218868437227405312 ∧ L ≤ H)
theorem VdZ.lo {L H : Int} (h : VdZ L H) : BdZ L := by unfold VdZ at h; unfold BdZ; omega
theorem VdZ.hi {L H : Int} (h : VdZ L H) : BdZ H := by unfold VdZ at h; unfold BdZ; omega
theorem pw_plz (n : Bool) (m : Nat) (h : Fq.wD n m ≠ 9223372036854775808) (hm : m ≤ 9218868437227405312) : pw (Fq.plz n m) = Fq.wD n m ∧ BdZ (Fq.plz n m) := by
  cases n
  · have e : Fq.plz false m = (m : Int) := by simp [Fq.plz]
    rw [e]
    refine ⟨?_, by unfold BdZ; omega⟩
    unfold pw
    rw [show decide ((m : Int) < 0) = false from decide_eq_false (by omega), show ((m : Int)).natAbs = m from by omega]
  · have e : Fq.plz true m = -(m : Int) := by simp [Fq.plz]
    have z : m ≠ 0 := by intro z; apply h; rw [z]; rfl
    rw [e]
    refine ⟨?_, by unfold BdZ; omega⟩
    unfold pw
    rw [show decide (-(m : Int) < 0) = true from decide_eq_true (by omega), show (-(m : Int)).natAbs = m from by omega]
theorem snd_pw (L H : Int) (hL : BdZ L) (hH : BdZ H) : Fq.snd (pw L) (pw H) = decide (L ≤ H ∧ L ≠ 9218868437227405312 ∧ H ≠ -9218868437227405312) := by
  unfold Fq.snd
  rw [ple9 L H hL hH]
  have e1 : (pw L = 9218868437227405312) ↔ L = 9218868437227405312 := by
    have h := pw_inj L 9218868437227405312 hL (by unfold BdZ; omega)
    rw [pw_I] at h; exact h
  have e2 : (pw H = 18442240474082181120) ↔ H = -9218868437227405312 := by
    have h := pw_inj H (-9218868437227405312) hH (by unfold BdZ; omega)
    rw [pw_MI] at h; exact h
  simp only [e1, e2]
  by_cases c1 : L ≤ H <;> by_cases c2 : L = 9218868437227405312 <;> by_cases c3 : H = -9218868437227405312 <;> simp [c1, c2, c3]
theorem rlo_pw (L H : Int) (hL : BdZ L) (hH : BdZ H) : Fq.rlo (pw L) (pw H) = pw (if L ≤ H ∧ L ≠ 9218868437227405312 ∧ H ≠ -9218868437227405312 then L else 9218868437227405312) := by
  unfold Fq.rlo
  rw [snd_pw L H hL hH, pla_pw L hL]
  by_cases c : L ≤ H ∧ L ≠ 9218868437227405312 ∧ H ≠ -9218868437227405312
  · rw [if_pos c, if_pos (decide_eq_true c)]
  · rw [if_neg c, if_neg (by simpa using c), pw_I]
theorem rhi_pw (L H : Int) (hL : BdZ L) (hH : BdZ H) : Fq.rhi (pw L) (pw H) = pw (if L ≤ H ∧ L ≠ 9218868437227405312 ∧ H ≠ -9218868437227405312 then H else -9218868437227405312) := by
  unfold Fq.rhi
  rw [snd_pw L H hL hH, pla_pw H hH]
  by_cases c : L ≤ H ∧ L ≠ 9218868437227405312 ∧ H ≠ -9218868437227405312
  · rw [if_pos c, if_pos (decide_eq_true c)]
  · rw [if_neg c, if_neg (by simpa using c), pw_MI]
theorem read_pw (a b : Nat) (ha : a < 18446744073709551616) (hb : b < 18446744073709551616) : ∃ L H, VdZ L H ∧ Fq.rlo a b = pw L ∧ Fq.rhi a b = pw H := by
  by_cases c : Fq.snd a b = true
  · obtain ⟨n, m, hm, rfl⟩ := Fq.exD a ha
    obtain ⟨n', m', hm', rfl⟩ := Fq.exD b hb
    have es := Fq.snd_w n n' m m' hm hm'
    rw [c] at es
    have es := of_decide_eq_true es.symm
    have key : ∀ (g : Bool) (r : Nat), r ≤ 9218868437227405312 → pw (Fq.plz g r) = Fq.pla (Fq.wD g r) ∧ BdZ (Fq.plz g r) := by
      intro g r hr
      by_cases c2 : Fq.wD g r = 9223372036854775808
      · have hg : g = true ∧ r = 0 := by
          unfold Fq.wD at c2
          cases g
          · simp at c2; omega
          · simp at c2; exact ⟨rfl, c2⟩
        rw [c2, hg.1, hg.2]
        exact ⟨by decide, by unfold BdZ Fq.plz; simp⟩
      · have h := pw_plz g r c2 hr
        rw [show Fq.pla (Fq.wD g r) = Fq.wD g r from by simp [Fq.pla, c2]]
        exact h
    have k1 := key n m es.1
    have k2 := key n' m' es.2.1
    refine ⟨Fq.plz n m, Fq.plz n' m', Or.inr ?_, ?_, ?_⟩
    · have b1 := k1.2
      have b2 := k2.2
      unfold BdZ at b1 b2
      have e1 : Fq.plz n m ≠ 9218868437227405312 := by
        intro h
        apply es.2.2.2.1
        unfold Fq.plz at h
        cases n
        · simp at h; exact ⟨rfl, by omega⟩
        · simp at h; omega
      have e2 : Fq.plz n' m' ≠ -9218868437227405312 := by
        intro h
        apply es.2.2.2.2
        unfold Fq.plz at h
        cases n'
        · simp at h <;> omega
        · simp at h; exact ⟨rfl, by omega⟩
      have := es.2.2.1
      omega
    · rw [k1.1]; simp [Fq.rlo, c]
    · rw [k2.1]; simp [Fq.rhi, c]
  · refine ⟨9218868437227405312, -9218868437227405312, Or.inl ⟨rfl, rfl⟩, ?_, ?_⟩
    · rw [pw_I]; unfold Fq.rlo; rw [if_neg c]
    · rw [pw_MI]; unfold Fq.rhi; rw [if_neg c]
theorem reread9 (L H : Int) (h : VdZ L H) : Fq.rlo (pw L) (pw H) = pw L ∧ Fq.rhi (pw L) (pw H) = pw H := by
  rw [rlo_pw L H h.lo h.hi, rhi_pw L H h.lo h.hi]
  rcases h with ⟨rfl, rfl⟩ | h
  · exact ⟨by rw [if_neg (by omega)], by rw [if_neg (by omega)]⟩
  · exact ⟨by rw [if_pos (by omega)], by rw [if_pos (by omega)]⟩
theorem bd_min (x y : Int) (hx : BdZ x) (hy : BdZ y) : BdZ (min x y) := by unfold BdZ at *; omega
theorem min7_ (n n' : Bool) (m m' : Nat) (hm : m ≤ 9218868437227405312) (hm' : m' ≤ 9218868437227405312) (h1 : Fq.wD n m ≠ 9223372036854775808) (h2 : Fq.wD n' m' ≠ 9223372036854775808) (ts : Array TypeId) (t : TypeId) (w : World) : (Builtin.min_ ts t #[.float .f64 (Fq.wD n m), .float .f64 (Fq.wD n' m')]).run Tryz.prog w = .ok (.float .f64 (if Fq.plz n' m' < Fq.plz n m then Fq.wD n' m' else Fq.wD n m)) w := by
  have ho := Fq.ordD n n' m m' hm hm'
  rcases Int.lt_trichotomy (Fq.plz n m) (Fq.plz n' m') with g | g | g
  · rw [Fq.cmp_lt g] at ho
    rw [if_neg (by omega)]
    generalize Fq.wD n m = X at ho ⊢
    generalize Fq.wD n' m' = Y at ho ⊢
    simp [Builtin.min_, Builtin.min2, ho]
  · rw [Fq.cmp_eq g] at ho
    have e : Fq.wD n m = Fq.wD n' m' := by
      have z1 : n = true → m ≠ 0 := fun h z => h1 (by rw [h, z]; rfl)
      have z2 : n' = true → m' ≠ 0 := fun h z => h2 (by rw [h, z]; rfl)
      unfold Fq.wD
      unfold Fq.plz at g
      cases n <;> cases n' <;> simp at z1 z2 g ⊢ <;> omega
    rw [if_neg (by omega)]
    rw [← e] at ho ⊢
    generalize Fq.wD n m = X at ho ⊢
    simp [Builtin.min_, Builtin.min2, ho]
  · rw [Fq.cmp_gt g] at ho
    rw [if_pos (by omega)]
    generalize Fq.wD n m = X at ho ⊢
    generalize Fq.wD n' m' = Y at ho ⊢
    simp [Builtin.min_, Builtin.min2, ho]

def Rd (a b : Nat) (L H : Int) : Prop := a < 18446744073709551616 ∧ b < 18446744073709551616 ∧ VdZ L H ∧ Fq.rlo a b = pw L ∧ Fq.rhi a b = pw H
theorem Rd.ex (a b : Nat) (ha : a < 18446744073709551616) (hb : b < 18446744073709551616) : ∃ L H, Rd a b L H := by
  obtain ⟨L, H, h1, h2, h3⟩ := read_pw a b ha hb
  exact ⟨L, H, ha, hb, h1, h2, h3⟩
theorem Rd.of {L H : Int} (h : VdZ L H) : Rd (pw L) (pw H) L H := ⟨pw_lt L h.lo, pw_lt H h.hi, h, (reread9 L H h).1, (reread9 L H h).2⟩
theorem Rd.vd {a b : Nat} {L H : Int} (h : Rd a b L H) : VdZ L H := h.2.2.1
theorem Rd.call {a b : Nat} {L H : Int} (h : Rd a b L H) (w : World) : Calls Tryz.prog 9 #[.agg #[.float .f64 a, .float .f64 b]] w fun e w' => e = .returned (.agg #[.float .f64 (pw L), .float .f64 (pw H)]) ∧ Kp w w' := by
  have g := Fq.read_ a b h.1 h.2.1 w
  rw [h.2.2.2.1, h.2.2.2.2] at g
  exact g
theorem emp9 (L H : Int) (h : VdZ L H) : decide (pw L = 9218868437227405312 ∧ pw H = 18442240474082181120) = decide (L = 9218868437227405312) := by
  congr 1; apply propext
  have e1 := pw_inj L 9218868437227405312 h.lo (by unfold BdZ; omega)
  have e2 := pw_inj H (-9218868437227405312) h.hi (by unfold BdZ; omega)
  rw [pw_I] at e1
  rw [pw_MI] at e2
  rw [e1, e2]
  unfold VdZ at h
  omega
theorem void9_ (L H : Int) (h : VdZ L H) (w : World) : Calls Tryz.prog 10 #[.agg #[.float .f64 (pw L), .float .f64 (pw H)]] w fun e w' => e = .returned (.bool (decide (L = 9218868437227405312))) ∧ Kp w w' := by
  have g := Fq.void_ (pw L) (pw H) (pw_lt L h.lo) (pw_lt H h.hi) w
  rw [emp9 L H h] at g
  exact g
theorem min9_ (x y : Int) (hx : BdZ x) (hy : BdZ y) (ts : Array TypeId) (t : TypeId) (w : World) : (Builtin.min_ ts t #[.float .f64 (pw x), .float .f64 (pw y)]).run Tryz.prog w = .ok (.float .f64 (pw (min x y))) w := by
  have h := min7_ (decide (x < 0)) (decide (y < 0)) x.natAbs y.natAbs (abs_pw x hx) (abs_pw y hy) (pw_ne x hx) (pw_ne y hy) ts t w
  rw [plz_pw, plz_pw] at h
  have e : (if y < x then pw y else pw x) = pw (min x y) := by
    by_cases c : y < x
    · rw [if_pos c, show min x y = y from by omega]
    · rw [if_neg c, show min x y = x from by omega]
  exact e ▸ h

set_option linter.unusedVariables false
theorem gpl_neg (p T G I : Nat) (d : Int) (c1 c2 : Nat) (V : Int) : gpl p T G I (-d) c1 c2 (-V) = -(gpl p T G I d c1 c2 V) := by
  unfold gpl
  have e1 : dirN true (-d) = dirN false d := by unfold dirN; simp
  have e2 : dirN false (-d) = dirN true d := by unfold dirN; simp
  rw [e1, e2, Int.natAbs_neg]
  by_cases z : V = 0
  · rw [if_pos (show -V = 0 by omega), if_pos z]; rfl
  · rw [if_neg (show ¬ -V = 0 by omega), if_neg z]
    by_cases n : V < 0
    · rw [if_pos n, if_neg (show ¬ -V < 0 by omega)]; omega
    · rw [if_neg n, if_pos (show -V < 0 by omega)]
theorem g53_neg (d : Int) (c1 c2 : Nat) (V : Int) : g53 (-d) c1 c2 (-V) = -(g53 d c1 c2 V) := gpl_neg _ _ _ _ d c1 c2 V
theorem iv_nt (n : Bool) (m : Nat) : Iv (!n) m = -Iv n m := by rw [iv_not]
def zc (o : Option Int) : Nat := match o with | none => 9221120237041090561 | some z => pz z
def sgI (n : Bool) : Int := if n then -9218868437227405312 else 9218868437227405312
theorem sgI_not (n : Bool) : sgI (!n) = -sgI n := by cases n <;> rfl
def oM (K : Nat) (d : Int) (n : Bool) (m : Nat) (n' : Bool) (m' : Nat) : Option Int := if 9218868437227405312 < m ∨ 9218868437227405312 < m' ∨ (m = 9218868437227405312 ∧ m' = 0) ∨ (m = 0 ∧ m' = 9218868437227405312) then none else if m = 9218868437227405312 ∨ m' = 9218868437227405312 then some (sgI (n ^^ n')) else some (g53 d 1 (2 ^ K) (Iv n m * Iv n' m'))
def ng (o : Option Int) : Option Int := o.map (fun z => -z)
theorem xor_not9 (n n' : Bool) : ((!n) ^^ n') = !(n ^^ n') := by cases n <;> cases n' <;> rfl
theorem oM_mir (K : Nat) (d : Int) (n : Bool) (m : Nat) (n' : Bool) (m' : Nat) : oM K (-d) (!n) m n' m' = ng (oM K d n m n' m') := by
  unfold oM
  rw [xor_not9, sgI_not, iv_nt, Int.neg_mul, g53_neg]
  by_cases c1 : 9218868437227405312 < m ∨ 9218868437227405312 < m' ∨ (m = 9218868437227405312 ∧ m' = 0) ∨ (m = 0 ∧ m' = 9218868437227405312)
  · rw [if_pos c1, if_pos c1]; rfl
  rw [if_neg c1, if_neg c1]
  by_cases c2 : m = 9218868437227405312 ∨ m' = 9218868437227405312
  · rw [if_pos c2, if_pos c2]; rfl
  rw [if_neg c2, if_neg c2]; rfl
theorem bad_sym (m m' : Nat) : (9218868437227405312 < m ∨ 9218868437227405312 < m' ∨ (m = 9218868437227405312 ∧ m' = 0) ∨ (m = 0 ∧ m' = 9218868437227405312)) ↔ (9218868437227405312 < m' ∨ 9218868437227405312 < m ∨ (m' = 9218868437227405312 ∧ m = 0) ∨ (m' = 0 ∧ m = 9218868437227405312)) := by omega
theorem oM_sym (K : Nat) (d : Int) (n : Bool) (m : Nat) (n' : Bool) (m' : Nat) : oM K d n m n' m' = oM K d n' m' n m := by
  unfold oM
  rw [Int.mul_comm (Iv n' m') (Iv n m), show (n' ^^ n) = (n ^^ n') from by cases n <;> cases n' <;> rfl]
  simp only [bad_sym m m', Or.comm (a := m = 9218868437227405312) (b := m' = 9218868437227405312)]
theorem sgI_le (n : Bool) : -9218868437227405312 ≤ sgI n ∧ sgI n ≤ 9218868437227405312 := by cases n <;> decide
def okO (o : Option Int) : Prop := ∀ z, o = some z → -9218868437227405312 ≤ z ∧ z ≤ 9218868437227405312
theorem ok_some (z : Int) (h : -9218868437227405312 ≤ z ∧ z ≤ 9218868437227405312) : okO (some z) := fun y e => by cases e; exact h
theorem ok_none : okO none := fun y e => by cases e
theorem okM (K : Nat) (d : Int) (n : Bool) (m : Nat) (n' : Bool) (m' : Nat) : okO (oM K d n m n' m') := by
  unfold oM
  split
  · exact ok_none
  · split
    · exact ok_some _ (sgI_le _)
    · exact ok_some _ (g53_le _ _ _ _)
theorem wD_sg (n : Bool) : Fq.wD n 9218868437227405312 = pz (sgI n) := by cases n <;> decide

set_option linter.unusedVariables false
def sN (z : Int) : Bool := decide (z < 0)
theorem sN_neg (z : Int) (h : z ≠ 0) : sN (-z) = !(sN z) := by
  unfold sN
  by_cases c : z < 0
  · rw [decide_eq_true c, decide_eq_false (by omega)]; rfl
  · rw [decide_eq_false c, decide_eq_true (by omega)]; rfl
def muZ (K : Nat) (d x y : Int) : Int := (oM K d (sN x) x.natAbs (sN y) y.natAbs).getD 0
theorem okD0 {o : Option Int} (h : okO o) : BdZ (o.getD 0) := by
  unfold BdZ
  cases o with
  | none => simp
  | some z => exact h z rfl
theorem muZ_bd (K : Nat) (d x y : Int) : BdZ (muZ K d x y) := okD0 (okM _ _ _ _ _ _)
theorem muZ_sym (K : Nat) (d x y : Int) : muZ K d x y = muZ K d y x := by unfold muZ; rw [oM_sym]
theorem muZ_neg (K : Nat) (d x y : Int) (hx : x ≠ 0) (hy : y ≠ 0) : muZ K d (-x) y = muZ K d x (-y) := by
  unfold muZ
  rw [sN_neg x hx, sN_neg y hy, Int.natAbs_neg, Int.natAbs_neg]
  have h1 := oM_mir K (-d) (sN x) x.natAbs (sN y) y.natAbs
  have h2 := oM_mir K (-d) (sN y) y.natAbs (sN x) x.natAbs
  rw [Int.neg_neg] at h1 h2
  rw [h1, oM_sym K d (sN x) x.natAbs (!(sN y)), h2, oM_sym K (-d) (sN y) y.natAbs]
def prZ (K : Nat) (x y : Int) : Int := if x = 0 ∨ y = 0 then 0 else muZ K (-1) x y
theorem prZ_sym (K : Nat) (x y : Int) : prZ K x y = prZ K y x := by
  unfold prZ
  rw [muZ_sym]
  by_cases c : x = 0 ∨ y = 0
  · rw [if_pos c, if_pos (by omega)]
  · rw [if_neg c, if_neg (by omega)]
theorem prZ_neg (K : Nat) (x y : Int) : prZ K (-x) y = prZ K x (-y) := by
  unfold prZ
  by_cases c : x = 0 ∨ y = 0
  · rw [if_pos (by omega), if_pos (by omega)]
  · rw [if_neg (by omega), if_neg (by omega), muZ_neg K _ _ _ (by omega) (by omega)]
theorem prZ_bd (K : Nat) (x y : Int) : BdZ (prZ K x y) := by
  unfold prZ
  split
  · unfold BdZ; omega
  · exact muZ_bd _ _ _ _
def lst (f : Int → Int → Int) (L1 H1 L2 H2 : Int) : Int := if L1 < 0 ∧ 0 < H1 ∧ L2 < 0 ∧ 0 < H2 then min (f H1 L2) (f L1 H2) else if L1 < 0 ∧ 0 < H2 then f L1 H2 else if 0 < H1 ∧ L2 < 0 then f H1 L2 else if H1 ≤ 0 ∧ H2 ≤ 0 then f H1 H2 else f L1 L2
theorem lst_bd (f : Int → Int → Int) (hf : ∀ x y, BdZ (f x y)) (L1 H1 L2 H2 : Int) : BdZ (lst f L1 H1 L2 H2) := by
  unfold lst
  repeat' split
  · exact bd_min _ _ (hf _ _) (hf _ _)
  all_goals exact hf _ _
set_option linter.unusedVariables false
def IsO (o : Option Int) (R : Nat) : Prop := ∀ z, o = some z → R = pz z
theorem bitsP_ (z : Int) (h : -9218868437227405312 ≤ z ∧ z ≤ 9218868437227405312) : IsO (some z) (pz z) := fun y e => by cases e; rfl
theorem bitsI_ (n : Bool) : IsO (some (sgI n)) (Fq.wD n 9218868437227405312) := fun y e => by cases e; exact wD_sg n
theorem bitsQ_ (R : Nat) (h1 : 9218868437227405312 < R % 9223372036854775808) (h2 : R < 18446744073709551616) : IsO none R := fun y e => by cases e
theorem plainI (s : Bool) (w : World) : Calls Tryz.prog 38 #[.float .f64 (Fq.wD s 9218868437227405312)] w fun e w' => e = .returned (.float .f64 (Fq.wD s 9218868437227405312)) ∧ w' = w := by
  have hp := Fq.plain_d s 9218868437227405312 (by decide) w
  rw [show (s && !((9218868437227405312 : Nat) == 0)) = s from by simp] at hp
  exact hp
theorem plainN (R : Nat) (p1 : 9218868437227405312 < R % 9223372036854775808) (p2 : R < 18446744073709551616) (w : World) : Calls Tryz.prog 38 #[.float .f64 R] w fun e w' => e = .returned (.float .f64 R) ∧ w' = w := by
  obtain ⟨a, b, hb9, hR⟩ := word_of R p2
  have hp := Fq.plain_d a b (by omega) w
  rw [show (a && !(b == 0)) = a from by simp; omega, ← hR] at hp
  exact hp
theorem mulO_ (K : Nat) (hK : K = 1074) (d : Int) (n n' : Bool) (m m' : Nat) (hm : m < 9223372036854775808) (hm' : m' < 9223372036854775808) (hd1 : -9223372036854775808 ≤ d) (hd2 : d < 9223372036854775808) (w : World) (hT : Tab w) (hQ : Fq.Tab w) : Calls Tryz.prog 23 #[.int .i64 d, .float .f64 (Fq.wD n m), .float .f64 (Fq.wD n' m')] w fun e w' => ∃ R, e = .returned (.float .f64 R) ∧ IsO (oM K d n m n' m') R ∧ Kp w w' := by
  by_cases hi : m < 9218868437227405312 ∧ m' < 9218868437227405312
  · have e : oM K d n m n' m' = some (g53 d 1 (2 ^ K) (Iv n m * Iv n' m')) := by
      unfold oM
      rw [if_neg (by omega), if_neg (by omega)]
    rw [e]
    exact (mulG_ K hK d n n' m m' hi.1 hi.2 hd1 hd2 w hT hQ).mono fun e w' h => ⟨_, h.1, bitsP_ _ (g53_le _ _ _ _), h.2⟩
  · by_cases hb : badP m m'
    · have e : oM K d n m n' m' = none := by
        have hb2 := hb
        unfold badP at hb2
        unfold oM
        rw [if_pos hb2]
      rw [e]
      obtain ⟨R, p1, p2, hrun⟩ := run_nan_mul _ _ (mul_bad n n' m m' hm hm' hb) w
      exact (pmulP_ d n n' m m' hm hm' (fun h => hi ⟨h.1, h.2.1⟩) w w.drew R R hrun (Kp.refl _).drew (plainN R p1 p2 w.drew)).mono fun e w' h => ⟨R, h.1, bitsQ_ R p1 p2, h.2⟩
    · have e : oM K d n m n' m' = some (sgI (n ^^ n')) := by
        unfold oM
        unfold badP at hb
        rw [if_neg hb, if_pos (by omega)]
      rw [e]
      exact (pmulP_ d n n' m m' hm hm' (fun h => hi ⟨h.1, h.2.1⟩) w w _ _ (run_float_arith w .mul 26 .f64 _ _ _ (mul_inf n n' m m' hb hi)) (Kp.refl _) (plainI _ w)).mono fun e w' h => ⟨_, h.1, bitsI_ _, h.2⟩
theorem aI (z : Int) (h : BdZ z) : z.natAbs < 9223372036854775808 := by unfold BdZ at h; omega
def TT (w : World) : Prop := Tab w ∧ Fq.Tab w
theorem TT.kp {w w' : World} (h : TT w) (g : Kp w w') : TT w' := ⟨h.1.grown g, h.2.grown g⟩
theorem mulP_ (K : Nat) (hK : K = 1074) (d x y : Int) (hd1 : -9223372036854775808 ≤ d) (hd2 : d < 9223372036854775808) (hx : BdZ x) (hy : BdZ y) (zx : x ≠ 0) (zy : y ≠ 0) (w : World) (hT : TT w) : Calls Tryz.prog 23 #[.int .i64 d, .float .f64 (pw x), .float .f64 (pw y)] w fun e w' => e = .returned (.float .f64 (pw (muZ K d x y))) ∧ Kp w w' := by
  have h := mulO_ K hK d (sN x) (sN y) x.natAbs y.natAbs (aI x hx) (aI y hy) hd1 hd2 w hT.1 hT.2
  refine h.mono ?_
  rintro e w' ⟨R, rfl, hR, k⟩
  have hz : ∃ z, oM K d (sN x) x.natAbs (sN y) y.natAbs = some z := by
    unfold oM
    rw [if_neg (by unfold BdZ at hx hy; omega)]
    repeat' split
    all_goals exact ⟨_, rfl⟩
  obtain ⟨z, hz⟩ := hz
  refine ⟨?_, k⟩
  rw [hR z hz]
  unfold muZ
  rw [hz]; rfl

def H6 (w : World) (B : Nat) (a b c d e f : Value) : Prop := Fq.H2 w B a b ∧ Fq.H2 w (B + 1) c d ∧ Fq.H2 w (B + 2) e f
theorem H6.keep {W w : World} {B : Nat} {a b c d e f : Value} (h : H6 W B a b c d e f) (g : Kp W w) : H6 w B a b c d e f := ⟨Fq.H2.keep h.1 g, Fq.H2.keep h.2.1 g, Fq.H2.keep h.2.2 g⟩
theorem H6.new (w : World) (a b c d e f : Value) (s t u : TypeId) : H6 (((w.alloc (.cells #[a, b] s)).alloc (.cells #[c, d] t)).alloc (.cells #[e, f] u)) w.heap.size a b c d e f := by
  refine ⟨?_, ?_, ?_⟩ <;> (unfold Fq.H2; simp [go_sem])
theorem H6.put {w : World} {B : Nat} {a b c d e f : Value} (h : H6 w B a b c d e f) (a' b' c' d' : Value) : H6 ((((w.setCell ⟨B, 0, none⟩ a').setCell ⟨B, 1, none⟩ b').setCell ⟨B + 1, 0, none⟩ c').setCell ⟨B + 1, 1, none⟩ d') B a' b' c' d' e f := by
  refine ⟨?_, ?_, ?_⟩
  · exact Fq.H2.far (Fq.H2.put h.1 a' b') (by omega) c' d'
  · exact Fq.H2.put (Fq.H2.far h.2.1 (by omega) a' b') c' d'
  · exact Fq.H2.far (Fq.H2.far h.2.2 (by omega) a' b') (by omega) c' d'
end Go.Proofs.YtmgfbalhgfkibaaGreatDoor
