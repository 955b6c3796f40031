import Derived.Test.YtidpeakojcgngaaGreatDoorProg
import Derived.Test.YtidpeakojcgngaaGreatDoorKXA0
import Derived.Test.YtidpeakojcgngaaGreatDoorKXM
import Derived.Test.YtidpeakojcgngaaGreatDoorKXY
import Derived.Test.YtidpeakojcgngaaGreatDoorKXQF
import Derived.Test.YtidpeakojcgngaaGreatDoorKQA
import Derived.Test.YtidpeakojcgngaaGreatDoorKQP
import Derived.Test.YtidpeakojcgngaaGreatDoorKXQU
import Derived.Test.YtidpeakojcgngaaGreatDoorKQB
import Derived.Test.YtidpeakojcgngaaGreatDoorKQBT
import Derived.Test.YtidpeakojcgngaaGreatDoorKQJd
import Derived.Test.YtidpeakojcgngaaGreatDoorKXEA
import Derived.Test.YtidpeakojcgngaaGreatDoorKXED
import Derived.Test.YtidpeakojcgngaaGreatDoorKMR7Q
import Derived.Test.YtidpeakojcgngaaGreatDoorKXMR
import Derived.Test.YtidpeakojcgngaaGreatDoorKXM3
import Derived.Test.YtidpeakojcgngaaGreatDoorKXO
import Derived.Test.YtidpeakojcgngaaGreatDoorKXO3
import Derived.Test.YtidpeakojcgngaaGreatDoorKXT
import Derived.Test.YtidpeakojcgngaaGreatDoorKXLX
import Derived.Test.YtidpeakojcgngaaGreatDoorKRX
import Derived.Test.YtidpeakojcgngaaGreatDoorKXRL
import Derived.Test.YtidpeakojcgngaaGreatDoorKXCO
import Derived.Test.YtidpeakojcgngaaGreatDoorKLN
import Derived.Test.YtidpeakojcgngaaGreatDoorKXRN
import Derived.Test.YtidpeakojcgngaaGreatDoorKXW4
import Derived.Test.YtidpeakojcgngaaGreatDoorKXBY
import Derived.Test.YtidpeakojcgngaaGreatDoorKXTZ
import Derived.Test.YtidpeakojcgngaaGreatDoorKXG1
import Derived.Test.YtidpeakojcgngaaGreatDoorKXH2Q
import Derived.Test.YtidpeakojcgngaaGreatDoorKXG4
import Derived.Test.YtidpeakojcgngaaGreatDoorKXS1
import Derived.Test.YtidpeakojcgngaaGreatDoorKXET
import Derived.Test.YtidpeakojcgngaaGreatDoorKXEG
import Derived.Test.YtidpeakojcgngaaGreatDoorKXEC
import Derived.Test.YtidpeakojcgngaaGreatDoorKXU5
import Derived.Test.YtidpeakojcgngaaGreatDoorKXFM
import Derived.Test.YtidpeakojcgngaaGreatDoorKXM4
import Derived.WalkKit
import Derived.ProofKit
import Derived.RowKit3
import Derived.WalkSpells
import Derived.StillTactics
import Derived.Deep.QuietTactic
import Derived.BigQuiet
import Derived.Below
import Derived.Deep.OwnRows
import Derived.OwnWalk
import Derived.Laws.BitsAllLaws
import Derived.Laws.Slices
import Derived.Laws.Bits64b
import Derived.Laws.FloatArith
import Derived.Deep.RegionHeld3
import Derived.OneCell
namespace Go.Proofs.YtidpeakojcgngaaGreatDoor
open Go.RowKit
theorem rsignP_ (n : Bool) (m : Nat) (s : Bool) (p : Option Addr) (l c : Nat) (q : Option Addr) (k d : Nat) (B1 : Nat) (w : World) (h : RP B1 w s p l c q k d n m) : Calls Tryz.prog 52 #[.agg #[.bool s, .slice p l c, .slice q k d]] w fun e w' => e = .returned (.int .i64 (cmI (Iv n m) 0)) ∧ Kp w w' := by
  obtain ⟨a, b, u1, u2, u3⟩ := h
  obtain ⟨K, hK⟩ : ∃ K : Nat, K = 1074 := ⟨_, rfl⟩
  obtain ⟨f1, f2, f3, f4, f5⟩ := u3 K hK
  have h := rsign_ s (.slice p l c) (.slice q k d) a w u1.ls (by omega)
  have hz : a = 0 ↔ Fq.vV Ieee.double m = 0 := by
    have hp := Nat.two_pow_pos K
    constructor
    · intro h0; rw [h0, Nat.zero_mul] at f2
      rcases Nat.mul_eq_zero.1 f2.symm with h1 | h1 <;> omega
    · intro h0; rw [h0, Nat.zero_mul] at f2
      rcases Nat.mul_eq_zero.1 f2 with h1 | h1
      · exact h1
      · omega
  have e : (if a = 0 then 0 else if s then (-1 : Int) else 1) = cmI (Iv n m) 0 := by
    rw [f3]
    by_cases z : a = 0
    · rw [if_pos z, hz.1 z]; cases s <;> rfl
    · have zp : 0 < Fq.vV Ieee.double m := by rcases Nat.eq_zero_or_pos (Fq.vV Ieee.double m) with h | h; exact absurd (hz.2 h) z; exact h
      rw [if_neg z]
      cases s
      · rw [if_neg (by decide), if_neg (by decide), cmI_gt _ _ (by omega)]
      · rw [if_pos rfl, if_pos rfl, cmI_lt _ _ (by omega)]
  rw [e] at h
  exact h
theorem signE_ (n : Bool) (m : Nat) (s : Bool) (p : Option Addr) (l c : Nat) (q : Option Addr) (k d : Nat) (B1 : Nat) (w : World) (h : RP B1 w s p l c q k d (fN n m) (fM m)) : Calls Tryz.prog 35 #[.agg #[.int .i64 (infS n m), .bool s, .slice p l c, .slice q k d]] w fun e w' => e = .returned (.int .i64 (cmI (Fq.plz n m) 0)) ∧ Kp w w' := by
  have z0 : cmI (Fq.plz n m) 0 = cmI (Fq.plz n m) (Fq.plz false 0) := rfl
  by_cases c1 : m = 9218868437227405312
  · have e1 : infS n m = if n then -1 else 1 := by unfold infS; rw [if_pos c1]
    rw [e1]
    have P1 : Fq.plz n m = if n then -(m : Int) else m := by unfold Fq.plz; cases n <;> rfl
    cases n
    · rw [cmI_gt _ _ (by rw [P1]; simp; omega)]; exact signI_ 1 s p l c q k d (by decide) w
    · rw [cmI_lt _ _ (by rw [P1]; simp; omega)]; exact signI_ (-1) s p l c q k d (by decide) w
  · have e1 : infS n m = 0 := by unfold infS; rw [if_neg c1]
    have f1 : fN n m = n ∧ fM m = m := by unfold fN fM; rw [if_neg c1, if_neg c1]; exact ⟨rfl, rfl⟩
    rw [f1.1, f1.2] at h
    have iz : Iv false 0 = 0 := by unfold Iv; rw [if_neg (by decide), Fq.vV_zero]; rfl
    rw [e1, z0, ← cmI_iv, iz]
    exact signZ_ _ s p l c q k d w (fun W g => rsignP_ n m s p l c q k d B1 W (h.kp g))

set_option linter.unusedVariables false
/-- two rows do not lie in a block -/
def NB (p q : Option Addr) (b : Nat) : Prop := (∀ a, p = some a → a.block ≠ b) ∧ (∀ a, q = some a → a.block ≠ b)
theorem Own.setNe {w : World} {base : Nat} {p : Option Addr} {l c : Nat} {xs : List Int} (h : Own w base (.slice p l c) xs) {x : Addr} (hx : ∀ a, p = some a → a.block ≠ x.block) (u : Value) : Own (w.setCell x u) base (.slice p l c) xs := by
  refine ownsRow_setCell_other h ?_ u
  cases p with
  | none => simp [Value.ownBlock]
  | some a => simpa [Value.ownBlock] using hx a rfl
theorem Own.blk {w : World} {base : Nat} {p : Option Addr} {l c : Nat} {xs : List Int} (h : Own w base (.slice p l c) xs) : ∀ a, p = some a → base ≤ a.block ∧ a.block < w.heap.size := by
  intro a ha
  rcases h.2 with ⟨h1, -⟩ | ⟨g, cap, cur, h1, h2, h3, -⟩
  · simp at h1; rw [h1.1] at ha; cases ha
  · simp at h1
    rw [h1.1] at ha
    obtain rfl := Option.some.inj ha
    refine ⟨h2, ?_⟩
    exact lt_of_block h3
theorem RP.setNe {base : Nat} {w : World} {s : Bool} {p : Option Addr} {l c : Nat} {q : Option Addr} {k d : Nat} {n : Bool} {m : Nat} (h : RP base w s p l c q k d n m) {x : Addr} (hx : NB p q x.block) (u : Value) : RP base (w.setCell x u) s p l c q k d n m := by
  obtain ⟨a, b, h1, h2, h3⟩ := h
  exact ⟨a, b, h1.setNe hx.1 u, h2.setNe hx.2 u, h3⟩
theorem RP.nought {base : Nat} {w : World} {s : Bool} {p : Option Addr} {l c : Nat} {q : Option Addr} {k d : Nat} {n : Bool} (h : RP base w s p l c q k d n 0) (n' : Bool) : RP base w s p l c q k d n' 0 := by
  obtain ⟨a, b, h1, h2, h3⟩ := h
  refine ⟨a, b, h1, h2, fun K hK => ?_⟩
  obtain ⟨f1, f2, f3, f4, f5⟩ := h3 K hK
  exact ⟨f1, f2, by rw [← f3]; unfold Iv; rw [Fq.vV_zero]; cases n <;> cases n' <;> rfl, f4, f5⟩
theorem RP.nbNew {base : Nat} {w : World} {s : Bool} {p : Option Addr} {l c : Nat} {q : Option Addr} {k d : Nat} {n : Bool} {m : Nat} (h : RP base w s p l c q k d n m) {b : Nat} (hb : w.heap.size ≤ b) : NB p q b := by
  obtain ⟨x, y, h1, h2, -⟩ := h
  exact ⟨fun a ha => by have := (h1.blk a ha).2; omega, fun a ha => by have := (h2.blk a ha).2; omega⟩
theorem RP.nbLow {base : Nat} {w : World} {s : Bool} {p : Option Addr} {l c : Nat} {q : Option Addr} {k d : Nat} {n : Bool} {m : Nat} (h : RP base w s p l c q k d n m) {b : Nat} (hb : b < base) : NB p q b := by
  obtain ⟨x, y, h1, h2, -⟩ := h
  exact ⟨fun a ha => by have := (h1.blk a ha).1; omega, fun a ha => by have := (h2.blk a ha).1; omega⟩

def H4c (w : World) (b : Nat) (v0 v1 v2 v3 : Value) : Prop := w.cell? ⟨b, 0, none⟩ = some v0 ∧ w.cell? ⟨b, 1, none⟩ = some v1 ∧ w.cell? ⟨b, 2, none⟩ = some v2 ∧ w.cell? ⟨b, 3, none⟩ = some v3 ∧ w.frozen? ⟨b, 0, none⟩ = false ∧ w.frozen? ⟨b, 1, none⟩ = false ∧ w.frozen? ⟨b, 2, none⟩ = false ∧ w.frozen? ⟨b, 3, none⟩ = false
theorem H4c.keep {W w : World} {b : Nat} {v0 v1 v2 v3 : Value} (h : H4c W b v0 v1 v2 v3) (g : Kp W w) : H4c w b v0 v1 v2 v3 := by
  obtain ⟨h0, h1, h2, h3, h4, h5, h6, h7⟩ := h
  exact ⟨kkeep g h0, kkeep g h1, kkeep g h2, kkeep g h3, (kfro g (cell_lt h0)).trans h4, (kfro g (cell_lt h0)).trans h5, (kfro g (cell_lt h0)).trans h6, (kfro g (cell_lt h0)).trans h7⟩
theorem H4c.new (w : World) (v0 v1 v2 v3 : Value) (t : TypeId) : H4c (w.alloc (.cells #[v0, v1, v2, v3] t)) w.heap.size v0 v1 v2 v3 := by
  unfold H4c; simp [go_sem]
theorem H4c.lt {w : World} {b : Nat} {v0 v1 v2 v3 : Value} (h : H4c w b v0 v1 v2 v3) : b < w.heap.size := cell_lt h.1
set_option maxRecDepth 20000 in
set_option maxHeartbeats 1000000 in
theorem H4c.put {w : World} {b : Nat} {v0 v1 v2 v3 : Value} (h : H4c w b v0 v1 v2 v3) (u0 u1 u2 u3 : Value) : H4c (((((w.setCell ⟨b, 0, none⟩ u0).setCell ⟨b, 1, none⟩ u1).setCell ⟨b, 2, none⟩ u2).setCell ⟨b, 3, none⟩ u3)) b u0 u1 u2 u3 := by
  obtain ⟨h0, h1, h2, h3, h4, h5, h6, h7⟩ := h
  unfold H4c; simp [go_sem, h0, h1, h2, h3, h4, h5, h6, h7]
theorem H4c.far1 {w : World} {b : Nat} {v0 v1 v2 v3 : Value} (h : H4c w b v0 v1 v2 v3) (x : Addr) (hne : x.block ≠ b) (u : Value) : H4c (w.setCell x u) b v0 v1 v2 v3 := by
  obtain ⟨h0, h1, h2, h3, h4, h5, h6, h7⟩ := h
  exact ⟨(World.cell?_setCell_far _ _ _ _ hne).trans h0, (World.cell?_setCell_far _ _ _ _ hne).trans h1, (World.cell?_setCell_far _ _ _ _ hne).trans h2, (World.cell?_setCell_far _ _ _ _ hne).trans h3, (World.frozen?_setCell _ _ _ _).trans h4, (World.frozen?_setCell _ _ _ _).trans h5, (World.frozen?_setCell _ _ _ _).trans h6, (World.frozen?_setCell _ _ _ _).trans h7⟩

def H9c (w : World) (b : Nat) (v0 v1 v2 v3 v4 v5 v6 v7 v8 : Value) : Prop := w.cell? ⟨b, 0, none⟩ = some v0 ∧ w.cell? ⟨b, 1, none⟩ = some v1 ∧ w.cell? ⟨b, 2, none⟩ = some v2 ∧ w.cell? ⟨b, 3, none⟩ = some v3 ∧ w.cell? ⟨b, 4, none⟩ = some v4 ∧ w.cell? ⟨b, 5, none⟩ = some v5 ∧ w.cell? ⟨b, 6, none⟩ = some v6 ∧ w.cell? ⟨b, 7, none⟩ = some v7 ∧ w.cell? ⟨b, 8, none⟩ = some v8 ∧ w.frozen? ⟨b, 0, none⟩ = false ∧ w.frozen? ⟨b, 1, none⟩ = false ∧ w.frozen? ⟨b, 2, none⟩ = false ∧ w.frozen? ⟨b, 3, none⟩ = false ∧ w.frozen? ⟨b, 4, none⟩ = false ∧ w.frozen? ⟨b, 5, none⟩ = false ∧ w.frozen? ⟨b, 6, none⟩ = false ∧ w.frozen? ⟨b, 7, none⟩ = false ∧ w.frozen? ⟨b, 8, none⟩ = false
theorem H9c.keep {W w : World} {b : Nat} {v0 v1 v2 v3 v4 v5 v6 v7 v8 : Value} (h : H9c W b v0 v1 v2 v3 v4 v5 v6 v7 v8) (g : Kp W w) : H9c w b v0 v1 v2 v3 v4 v5 v6 v7 v8 := by
  obtain ⟨h0, h1, h2, h3, h4, h5, h6, h7, h8, h9, h10, h11, h12, h13, h14, h15, h16, h17⟩ := h
  exact ⟨kkeep g h0, kkeep g h1, kkeep g h2, kkeep g h3, kkeep g h4, kkeep g h5, kkeep g h6, kkeep g h7, kkeep g h8, (kfro g (cell_lt h0)).trans h9, (kfro g (cell_lt h0)).trans h10, (kfro g (cell_lt h0)).trans h11, (kfro g (cell_lt h0)).trans h12, (kfro g (cell_lt h0)).trans h13, (kfro g (cell_lt h0)).trans h14, (kfro g (cell_lt h0)).trans h15, (kfro g (cell_lt h0)).trans h16, (kfro g (cell_lt h0)).trans h17⟩
theorem H9c.new (w : World) (v0 v1 v2 v3 v4 v5 v6 v7 v8 : Value) (t : TypeId) : H9c (w.alloc (.cells #[v0, v1, v2, v3, v4, v5, v6, v7, v8] t)) w.heap.size v0 v1 v2 v3 v4 v5 v6 v7 v8 := by
  unfold H9c; simp [go_sem]
theorem H9c.lt {w : World} {b : Nat} {v0 v1 v2 v3 v4 v5 v6 v7 v8 : Value} (h : H9c w b v0 v1 v2 v3 v4 v5 v6 v7 v8) : b < w.heap.size := cell_lt h.1
set_option maxRecDepth 20000 in
set_option maxHeartbeats 1000000 in
theorem H9c.put {w : World} {b : Nat} {v0 v1 v2 v3 v4 v5 v6 v7 v8 : Value} (h : H9c w b v0 v1 v2 v3 v4 v5 v6 v7 v8) (u0 u1 u2 u3 u4 u5 u6 u7 u8 : Value) : H9c ((((((((((w.setCell ⟨b, 0, none⟩ u0).setCell ⟨b, 1, none⟩ u1).setCell ⟨b, 2, none⟩ u2).setCell ⟨b, 3, none⟩ u3).setCell ⟨b, 4, none⟩ u4).setCell ⟨b, 5, none⟩ u5).setCell ⟨b, 6, none⟩ u6).setCell ⟨b, 7, none⟩ u7).setCell ⟨b, 8, none⟩ u8)) b u0 u1 u2 u3 u4 u5 u6 u7 u8 := by
  obtain ⟨h0, h1, h2, h3, h4, h5, h6, h7, h8, h9, h10, h11, h12, h13, h14, h15, h16, h17⟩ := h
  unfold H9c; simp [go_sem, h0, h1, h2, h3, h4, h5, h6, h7, h8, h9, h10, h11, h12, h13, h14, h15, h16, h17]
theorem H9c.far1 {w : World} {b : Nat} {v0 v1 v2 v3 v4 v5 v6 v7 v8 : Value} (h : H9c w b v0 v1 v2 v3 v4 v5 v6 v7 v8) (x : Addr) (hne : x.block ≠ b) (u : Value) : H9c (w.setCell x u) b v0 v1 v2 v3 v4 v5 v6 v7 v8 := by
  obtain ⟨h0, h1, h2, h3, h4, h5, h6, h7, h8, h9, h10, h11, h12, h13, h14, h15, h16, h17⟩ := h
  exact ⟨(World.cell?_setCell_far _ _ _ _ hne).trans h0, (World.cell?_setCell_far _ _ _ _ hne).trans h1, (World.cell?_setCell_far _ _ _ _ hne).trans h2, (World.cell?_setCell_far _ _ _ _ hne).trans h3, (World.cell?_setCell_far _ _ _ _ hne).trans h4, (World.cell?_setCell_far _ _ _ _ hne).trans h5, (World.cell?_setCell_far _ _ _ _ hne).trans h6, (World.cell?_setCell_far _ _ _ _ hne).trans h7, (World.cell?_setCell_far _ _ _ _ hne).trans h8, (World.frozen?_setCell _ _ _ _).trans h9, (World.frozen?_setCell _ _ _ _).trans h10, (World.frozen?_setCell _ _ _ _).trans h11, (World.frozen?_setCell _ _ _ _).trans h12, (World.frozen?_setCell _ _ _ _).trans h13, (World.frozen?_setCell _ _ _ _).trans h14, (World.frozen?_setCell _ _ _ _).trans h15, (World.frozen?_setCell _ _ _ _).trans h16, (World.frozen?_setCell _ _ _ _).trans h17⟩
set_option maxRecDepth 20000 in
set_option maxHeartbeats 1000000 in
theorem rmulO_ (sa sb : Bool) (a1 a2 b1 b2 : Nat) (P1 P2 Q1 Q2 : Option Addr) (C1 C2 D1 D2 : Nat) (w : World) (h1 : Arr w P1 (dig a1)) (l1 : (dig a1).length ≤ C1) (h2 : Arr w P2 (dig a2)) (l2 : (dig a2).length ≤ C2) (h3 : Arr w Q1 (dig b1)) (l3 : (dig b1).length ≤ D1) (h4 : Arr w Q2 (dig b2)) (l4 : (dig b2).length ≤ D2) (k1 : len32 a1 ≤ 4000) (k2 : len32 a2 ≤ 4000) (k3 : len32 b1 ≤ 4000) (k4 : len32 b2 ≤ 4000) (z2 : a2 ≠ 0) (z4 : b2 ≠ 0) (X D : Nat) (hX : X = a1 * b1) (hD : D = a2 * b2) (lX : len32 X ≤ 16000) (lD : len32 D ≤ 16000) :
    Calls Tryz.prog 50 #[.agg #[.bool sa, .slice P1 (dig a1).length C1, .slice P2 (dig a2).length C2], .agg #[.bool sb, .slice Q1 (dig b1).length D1, .slice Q2 (dig b2).length D2]] w fun e w' => ∃ (vn vd : Value) (a' b' : Nat) (ng : Bool), e = .returned (.agg #[.bool ng, vn, vd]) ∧ Own w' w.heap.size vn (dig a') ∧ Own w' w.heap.size vd (dig b') ∧ (FracOf X D 0 a' b' ∧ (X ≠ 0 → ng = (sa ^^ sb))) ∧ Kp w w' := by
  have hz : D ≠ 0 := by rw [hD]; exact Nat.mul_ne_zero z2 z4
  obtain ⟨E1, g1⟩ : ∃ E, E = (dig a1).length := ⟨_, rfl⟩
  obtain ⟨E2, g2⟩ : ∃ E, E = (dig a2).length := ⟨_, rfl⟩
  obtain ⟨E3, g3⟩ : ∃ E, E = (dig b1).length := ⟨_, rfl⟩
  obtain ⟨E4, g4⟩ : ∃ E, E = (dig b2).length := ⟨_, rfl⟩
  rw [← g1, ← g2, ← g3, ← g4]
  obtain ⟨B, hB⟩ : ∃ B, B = w.heap.size := ⟨_, rfl⟩
  obtain ⟨wA, hwA⟩ : ∃ wA, wA = w.alloc (.cells #[.bool sa, .slice P1 E1 C1, .slice P2 E2 C2] 43) := ⟨_, rfl⟩
  obtain ⟨wB, hwB⟩ : ∃ wB, wB = wA.alloc (.cells #[.bool sb, .slice Q1 E3 D1, .slice Q2 E4 D2] 43) := ⟨_, rfl⟩
  obtain ⟨w0, hw0⟩ : ∃ w0, w0 = wB.alloc (.cells #[.bool false, .slice none 0 0, .slice none 0 0] 43) := ⟨_, rfl⟩
  have sA : wA.heap.size = B + 1 := by rw [hwA, hB]; simp
  have sB : wB.heap.size = B + 2 := by rw [hwB]; simp [sA]
  have kAB : Kp wA wB := by rw [hwB]; exact (Kp.refl wA).alloc _
  have x0 : wB.cell? ⟨B, 0, none⟩ = some (.bool sa) := kkeep kAB (by rw [hwA, hB]; simp [go_sem])
  have x1 : wB.cell? ⟨B, 1, none⟩ = some (.slice P1 E1 C1) := kkeep kAB (by rw [hwA, hB]; simp [go_sem])
  have x2 : wB.cell? ⟨B, 2, none⟩ = some (.slice P2 E2 C2) := kkeep kAB (by rw [hwA, hB]; simp [go_sem])
  have y0 : wB.cell? ⟨B + 1, 0, none⟩ = some (.bool sb) := by rw [hwB, ← sA]; simp [go_sem]
  have y1 : wB.cell? ⟨B + 1, 1, none⟩ = some (.slice Q1 E3 D1) := by rw [hwB, ← sA]; simp [go_sem]
  have y2 : wB.cell? ⟨B + 1, 2, none⟩ = some (.slice Q2 E4 D2) := by rw [hwB, ← sA]; simp [go_sem]
  have r0 : w0.cell? ⟨B + 2, 0, none⟩ = some (.bool false) := by rw [hw0, ← sB]; simp [go_sem]
  have r1 : w0.cell? ⟨B + 2, 1, none⟩ = some (.slice none 0 0) := by rw [hw0, ← sB]; simp [go_sem]
  have r2 : w0.cell? ⟨B + 2, 2, none⟩ = some (.slice none 0 0) := by rw [hw0, ← sB]; simp [go_sem]
  have f0 : w0.frozen? ⟨B + 2, 0, none⟩ = false := by rw [hw0, ← sB]; simp [go_sem]
  have f1 : w0.frozen? ⟨B + 2, 1, none⟩ = false := by rw [hw0, ← sB]; simp [go_sem]
  have f2 : w0.frozen? ⟨B + 2, 2, none⟩ = false := by rw [hw0, ← sB]; simp [go_sem]
  have kw : Kp w w0 := by rw [hw0, hwB, hwA]; exact (((Kp.refl w).alloc _).alloc _).alloc _
  have kS : Kp wB w0 := by rw [hw0]; exact (Kp.refl wB).alloc _
  have kD : Kp wB w0.drew := kS.drew
  have hge : wB.heap.size ≤ (⟨B + 2, 0, none⟩ : Addr).block := by simp only; omega
  have hlt := cell_lt r0
  have HP1 : Hid (∀ W : World, Kp w0 W → Calls Tryz.prog 81 #[.slice P1 E1 C1, .slice Q1 E3 D1] W fun e w' => ∃ p c, e = .returned (.slice p (dig X).length c) ∧ Arr w' p (dig X) ∧ (dig X).length ≤ c ∧ Kp W w') := by
    show ∀ W : World, Kp w0 W → Calls Tryz.prog 81 #[.slice P1 E1 C1, .slice Q1 E3 D1] W fun e w' => ∃ p c, e = .returned (.slice p (dig X).length c) ∧ Arr w' p (dig X) ∧ (dig X).length ≤ c ∧ Kp W w'
    intro W k
    rw [hX]; exact timesR _ _ a1 b1 W ⟨P1, C1, by rw [g1], h1.grown (kw.trans k), l1⟩ ⟨Q1, D1, by rw [g3], h3.grown (kw.trans k), l3⟩ (by omega) (by omega)
  have HP2 : Hid (∀ W : World, Kp w0 W → Calls Tryz.prog 81 #[.slice P2 E2 C2, .slice Q2 E4 D2] W fun e w' => ∃ p c, e = .returned (.slice p (dig D).length c) ∧ Arr w' p (dig D) ∧ (dig D).length ≤ c ∧ Kp W w') := by
    show ∀ W : World, Kp w0 W → Calls Tryz.prog 81 #[.slice P2 E2 C2, .slice Q2 E4 D2] W fun e w' => ∃ p c, e = .returned (.slice p (dig D).length c) ∧ Arr w' p (dig D) ∧ (dig D).length ≤ c ∧ Kp W w'
    intro W k
    rw [hD]; exact timesR _ _ a2 b2 W ⟨P2, C2, by rw [g2], h2.grown (kw.trans k), l2⟩ ⟨Q2, D2, by rw [g4], h4.grown (kw.trans k), l4⟩ (by omega) (by omega)
  obtain ⟨NX, hNX⟩ : ∃ N, N = (dig X).length := ⟨_, rfl⟩
  obtain ⟨ND, hND⟩ : ∃ N, N = (dig D).length := ⟨_, rfl⟩
  obtain ⟨st, hst⟩ : ∃ st, st = (sa ^^ sb) := ⟨_, rfl⟩
  have hst2 : (sa != sb) = st := by rw [hst]
  have hst3 : (!decide (sa = sb)) = st := by rw [hst]; cases sa <;> cases sb <;> rfl
  have hst4 : (!(sa == sb)) = st := by rw [hst]; cases sa <;> cases sb <;> rfl
  have HFR : Hid (∀ (p : Option Addr) (c : Nat) (q : Option Addr) (d : Nat) (W : World), Kp w0 W → Arr W p (dig X) → (dig X).length ≤ c → Arr W q (dig D) → (dig D).length ≤ d → Calls Tryz.prog 79 #[.bool st, .slice p (dig X).length c, .slice q (dig D).length d, .int .i64 0] W fun e w' => ∃ (vn vd : Value) (a' b' : Nat) (ng : Bool), e = .returned (.agg #[.bool ng, vn, vd]) ∧ Own w' W.heap.size vn (dig a') ∧ Own w' W.heap.size vd (dig b') ∧ (FracOf X D 0 a' b' ∧ (X ≠ 0 → ng = st)) ∧ Kp W w') := by
    show ∀ (p : Option Addr) (c : Nat) (q : Option Addr) (d : Nat) (W : World), Kp w0 W → Arr W p (dig X) → (dig X).length ≤ c → Arr W q (dig D) → (dig D).length ≤ d → Calls Tryz.prog 79 #[.bool st, .slice p (dig X).length c, .slice q (dig D).length d, .int .i64 0] W fun e w' => ∃ (vn vd : Value) (a' b' : Nat) (ng : Bool), e = .returned (.agg #[.bool ng, vn, vd]) ∧ Own w' W.heap.size vn (dig a') ∧ Own w' W.heap.size vd (dig b') ∧ (FracOf X D 0 a' b' ∧ (X ≠ 0 → ng = st)) ∧ Kp W w'
    intro p c q d W kk ar ll ar' ll'
    have g := frac_ st (.slice p (dig X).length c) (.slice q (dig D).length d) (dig X) (dig D) 0 W ⟨p, c, rfl, ar, ll⟩ ⟨q, d, rfl, ar', ll'⟩ (Wd_dig _) (Wd_dig _) (by change len32 _ ≤ _; omega) (by change len32 _ ≤ _; omega) (by rw [val_dig]; exact hz) (by decide)
    rw [val_dig, val_dig] at g
    exact g
  rw [← hNX, ← hND] at HFR
  rw [← hNX] at HP1
  rw [← hND] at HP2
  rw [← hst]
  have HW : Hid (w0 = wB.alloc (.cells #[.bool false, .slice none 0 0, .slice none 0 0] 43) ∧ wB = wA.alloc (.cells #[.bool sb, .slice Q1 E3 D1, .slice Q2 E4 D2] 43) ∧ wA = w.alloc (.cells #[.bool sa, .slice P1 E1 C1, .slice P2 E2 C2] 43) ∧ B = w.heap.size ∧ Kp w w0) := ⟨hw0, hwB, hwA, hB, kw⟩
  clear hNX hND hst hw0 hwB hwA hB sA sB kw kAB h1 l1 h2 l2 h3 l3 h4 l4 k1 k2 k3 k4 z2 z4 hX hD hz lX lD g1 g2 g3 g4
  go_enter Tryz.func50, Tryz.ntmps50
  go_upto_region 1 with fail
  rw [← HW.out.2.2.2.1]
  try rw [← HW.out.2.2.1]
  try rw [← HW.out.2.1]
  try rw [← HW.out.1]
  go_region_held3 (fun w' => w'.cell? ⟨B, 0, none⟩ = some (.bool sa) ∧ w'.cell? ⟨B, 1, none⟩ = some (.slice P1 E1 C1) ∧ w'.cell? ⟨B, 2, none⟩ = some (.slice P2 E2 C2) ∧ w'.cell? ⟨B + 1, 0, none⟩ = some (.bool sb) ∧ w'.cell? ⟨B + 1, 1, none⟩ = some (.slice Q1 E3 D1) ∧ w'.cell? ⟨B + 1, 2, none⟩ = some (.slice Q2 E4 D2)) (refine ⟨kkeep (W := wB) ?_ x0, kkeep (W := wB) ?_ x1, kkeep (W := wB) ?_ x2, kkeep (W := wB) ?_ y0, kkeep (W := wB) ?_ y1, kkeep (W := wB) ?_ y2⟩ <;> ((repeat (first | with_reducible exact kC | with_reducible exact kB | with_reducible exact kA | with_reducible exact kS | with_reducible exact kD | with_reducible exact Kp.refl _ | with_reducible refine Kp.drew ?_ | refine Kp.setCell ?_ hge _)); done)) (first | (go_at_call 79; have hh := ar2; refine (HFR.out pp cc pq cq _ ?q1 ?q2 ll1 ?q3 ll2).mono ?_; (case q1 => ((repeat (first | with_reducible exact kk2 | with_reducible exact kk1 | with_reducible exact Kp.refl _ | with_reducible refine Kp.drew ?_)); done)); (case q2 => exact ar1.grown k12); (case q3 => exact ar2); rintro e v3 ⟨vn, vd, a', b', ng, rfl, o1, o2, ff, k23⟩; have kk3 : Kp w0 v3 := Kp.trans ?q4 k23; (case q4 => ((repeat (first | with_reducible exact kk2 | with_reducible exact kk1 | with_reducible exact Kp.refl _ | with_reducible refine Kp.drew ?_)); done)); have kC : Kp wB v3 := kS.trans kk3; obtain ⟨pn, cn, rfl, an, ln⟩ := o1.arr; obtain ⟨pd, cd, rfl, ad, ld⟩ := o2.arr; have R0 := kkeep kk3 r0; have R1 := kkeep kk3 r1; have R2 := kkeep kk3 r2; have F0 := (kfro kk3 hlt).trans f0; have F1 := (kfro kk3 hlt).trans f1; have F2 := (kfro kk3 hlt).trans f2) | (go_at_call 81; have hh := ar1; refine (HP2.out _ ?q5).mono ?_; (case q5 => ((repeat (first | with_reducible exact kk2 | with_reducible exact kk1 | with_reducible exact Kp.refl _ | with_reducible refine Kp.drew ?_)); done)); rintro e v2 ⟨pq, cq, rfl, ar2, ll2, k12⟩; have kk2 : Kp w0 v2 := Kp.trans ?q7 k12; (case q7 => ((repeat (first | with_reducible exact kk2 | with_reducible exact kk1 | with_reducible exact Kp.refl _ | with_reducible refine Kp.drew ?_)); done)); have kB : Kp wB v2 := kS.trans kk2) | (go_at_call 81; refine (HP1.out _ ?q8).mono ?_; (case q8 => ((repeat (first | with_reducible exact kk2 | with_reducible exact kk1 | with_reducible exact Kp.refl _ | with_reducible refine Kp.drew ?_)); done)); rintro e v1 ⟨pp, cc, rfl, ar1, ll1, k01⟩; have kk1 : Kp w0 v1 := Kp.trans ?q10 k01; (case q10 => ((repeat (first | with_reducible exact kk2 | with_reducible exact kk1 | with_reducible exact Kp.refl _ | with_reducible refine Kp.drew ?_)); done)); have kA : Kp wB v1 := kS.trans kk1))
  have hs1 := Below.size kk2
  obtain ⟨wz, hwz⟩ : ∃ wz, wz = ((v3.setCell ⟨B + 2, 0, none⟩ (.bool ng)).setCell ⟨B + 2, 1, none⟩ (.slice pn (dig a').length cn)).setCell ⟨B + 2, 2, none⟩ (.slice pd (dig b').length cd) := ⟨_, rfl⟩
  have kb : Kb (B + 2) v3 wz := by rw [hwz]; exact (((Kb.refl (B + 2) v3).setCell 0 _).setCell 1 _).setCell 2 _
  have O1 := o1.kb kb (fun g hg => by have := o1.lt g hg; omega)
  have O2 := o2.kb kb (fun g hg => by have := o2.lt g hg; omega)
  have hkw : Kp w wz := kb.kp (HW.out.2.2.2.2.trans kk3) (by rw [HW.out.2.2.2.1]; omega)
  have HO : Hid (Own wz w.heap.size (.slice pn (dig a').length cn) (dig a') ∧ Own wz w.heap.size (.slice pd (dig b').length cd) (dig b') ∧ (FracOf X D 0 a' b' ∧ (X ≠ 0 → ng = st)) ∧ Kp w wz ∧ wz = ((v3.setCell ⟨B + 2, 0, none⟩ (.bool ng)).setCell ⟨B + 2, 1, none⟩ (.slice pn (dig a').length cn)).setCell ⟨B + 2, 2, none⟩ (.slice pd (dig b').length cd)) := ⟨O1.mono (by have e9 := HW.out.2.2.2.1; first | omega | exact Nat.le_trans (show w.heap.size ≤ v1.heap.size by omega) (Nat.le_refl _)), O2.mono (by have e9 := HW.out.2.2.2.1; first | omega | exact Nat.le_trans (show w.heap.size ≤ v1.heap.size by omega) (Nat.le_refl _)), ff, hkw, hwz⟩
  clear hs1 hwz kb O1 O2 hkw o1 o2 ff k23 kk3 kC an ln ad ld kk2 k12 kB ar2 ll2 kk1 k01 kA ar1 ll1 HP1 HP2 HFR kS kD hge
  go_wp2
  obtain ⟨q1, q2, q3, q4, q5⟩ := HO.out
  rw [q5] at q1 q2 q4
  exact bodyPost_ret (v := .agg #[.bool ng, .slice pn (dig a').length cn, .slice pd (dig b').length cd]) (by simp [results, Tryz.results50, go_sem, R0, R1, R2]) rfl ⟨_, _, a', b', ng, rfl, q1, q2, q3, q4⟩
theorem frac_exact9 (x D a b K S : Nat) (hF : FracOf x D 0 a b) (hD : D ≠ 0) (hx : x * 2 ^ K = S * D) : a * 2 ^ K = S * b := by
  obtain ⟨hb, h00, hrv, -, -⟩ := hF
  have hDp : 0 < D := by omega
  by_cases h0 : x = 0
  · have hS : S = 0 := by
      rw [h0, Nat.zero_mul] at hx
      rcases Nat.mul_eq_zero.1 hx.symm with h | h
      · exact h
      · exact absurd h hD
    rw [h00.2 h0, hS, Nat.zero_mul, Nat.zero_mul]
  have hbp : 0 < b := by omega
  have hfl : ∀ j : Nat, a * 2 ^ K * 2 ^ j / b = S * 2 ^ j := fun j => by
    obtain ⟨p, hp⟩ : ∃ p, p = blen (a * 2 ^ (K + j) / b) + blen (x * 2 ^ (K + j) / D) := ⟨_, rfl⟩
    have h := hrv (-1) p ((K + j : Nat) : Int) h0
    unfold rV at h
    rw [Int.add_zero, show (((K + j : Nat) : Int)).toNat = K + j from by omega, show (-((K + j : Nat) : Int)).toNat = 0 from by omega, Nat.pow_zero, Nat.mul_one, Nat.mul_one, rU_floor p _ b (by rw [hp]; omega), rU_floor p _ D (by rw [hp]; omega), Nat.pow_add] at h
    rw [Nat.mul_assoc, h, ← Nat.mul_assoc, hx, Nat.mul_right_comm, Nat.mul_div_cancel _ hDp]
  obtain ⟨A9, hA⟩ : ∃ A9, A9 = a * 2 ^ K := ⟨_, rfl⟩
  rw [← hA] at hfl ⊢
  have h1 := hfl 0
  rw [Nat.pow_zero, Nat.mul_one, Nat.mul_one] at h1
  have h2 : S * b ≤ A9 := by rw [← h1]; exact Nat.div_mul_le_self A9 b
  obtain ⟨E9, hE⟩ : ∃ E9, E9 = A9 - S * b := ⟨_, rfl⟩
  by_cases c : E9 = 0
  · omega
  · exfalso
    have h3 := hfl (blen b)
    have h4 : b < 2 ^ blen b := (blen_spec b hb).2.1
    have e1 : A9 = S * b + E9 := by omega
    rw [e1, Nat.add_mul, Nat.mul_right_comm, Nat.add_comm, Nat.add_mul_div_right _ _ hbp] at h3
    have h5 : E9 * 2 ^ blen b / b = 0 := by omega
    have h6 : b ≤ E9 * 2 ^ blen b := Nat.le_trans (Nat.le_of_lt h4) (Nat.le_mul_of_pos_left _ (by omega))
    have h7 := (Nat.le_div_iff_mul_le hbp (x := 1)).2 (by rw [Nat.one_mul]; exact h6)
    omega

set_option linter.unusedVariables false
/-- a ratio's parts tell P of the squared least places -/
def WF (s : Bool) (a b P : Nat) : Prop := ∀ K : Nat, K = 1074 → b ≠ 0 ∧ a * 2 ^ (K + K) = P * b ∧ (P ≠ 0 → s = false) ∧ blen a ≤ 100000 ∧ blen b ≤ 100000
/-- a ratio that is P of the squared least places, with rows of its own from 'base' on -/
def WP (base : Nat) (w : World) (s : Bool) (p : Option Addr) (l c : Nat) (q : Option Addr) (k d : Nat) (P : Nat) : Prop := ∃ a b, Own w base (.slice p l c) (dig a) ∧ Own w base (.slice q k d) (dig b) ∧ WF s a b P
theorem WP.kp {base : Nat} {w : World} {s : Bool} {p : Option Addr} {l c : Nat} {q : Option Addr} {k d : Nat} {P : Nat} {w' : World} (h : WP base w s p l c q k d P) (g : Kp w w') : WP base w' s p l c q k d P := by
  obtain ⟨a, b, h1, h2, h3⟩ := h
  exact ⟨a, b, h1.kp g, h2.kp g, h3⟩
theorem WP.mono {base : Nat} {w : World} {s : Bool} {p : Option Addr} {l c : Nat} {q : Option Addr} {k d : Nat} {P : Nat} {base' : Nat} (h : WP base w s p l c q k d P) (g : base' ≤ base) : WP base' w s p l c q k d P := by
  obtain ⟨a, b, h1, h2, h3⟩ := h
  exact ⟨a, b, h1.mono g, h2.mono g, h3⟩
theorem WP.setNe {base : Nat} {w : World} {s : Bool} {p : Option Addr} {l c : Nat} {q : Option Addr} {k d : Nat} {P : Nat} (h : WP base w s p l c q k d P) {x : Addr} (hx : NB p q x.block) (u : Value) : WP base (w.setCell x u) s p l c q k d P := by
  obtain ⟨a, b, h1, h2, h3⟩ := h
  exact ⟨a, b, h1.setNe hx.1 u, h2.setNe hx.2 u, h3⟩
theorem WP.nbNew {base : Nat} {w : World} {s : Bool} {p : Option Addr} {l c : Nat} {q : Option Addr} {k d : Nat} {P : Nat} (h : WP base w s p l c q k d P) {b : Nat} (hb : w.heap.size ≤ b) : NB p q b := by
  obtain ⟨x, y, h1, h2, -⟩ := h
  exact ⟨fun a ha => by have := (h1.blk a ha).2; omega, fun a ha => by have := (h2.blk a ha).2; omega⟩
theorem WP.nbLow {base : Nat} {w : World} {s : Bool} {p : Option Addr} {l c : Nat} {q : Option Addr} {k d : Nat} {P : Nat} (h : WP base w s p l c q k d P) {b : Nat} (hb : b < base) : NB p q b := by
  obtain ⟨x, y, h1, h2, -⟩ := h
  exact ⟨fun a ha => by have := (h1.blk a ha).1; omega, fun a ha => by have := (h2.blk a ha).1; omega⟩
theorem RP.wp0 {base : Nat} {w : World} {s : Bool} {p : Option Addr} {l c : Nat} {q : Option Addr} {k d : Nat} {n : Bool} (h : RP base w s p l c q k d n 0) : WP base w s p l c q k d 0 := by
  obtain ⟨a, b, h1, h2, h3⟩ := h
  refine ⟨a, b, h1, h2, fun K hK => ?_⟩
  obtain ⟨f1, f2, f3, f4, f5⟩ := h3 K hK
  have a0 : a = 0 := by
    rw [Fq.vV_zero, Nat.zero_mul] at f2
    rcases Nat.mul_eq_zero.1 f2 with h | h
    · exact h
    · have := Nat.two_pow_pos K; omega
  refine ⟨f1, by rw [a0, Nat.zero_mul, Nat.zero_mul], fun h => absurd rfl h, by omega, by omega⟩
theorem WP.qp {base : Nat} {w : World} {s : Bool} {p : Option Addr} {l c : Nat} {q : Option Addr} {k d : Nat} {P : Nat} (h : WP base w s p l c q k d P) : QP base w s p l c q k d (fun dd => mulW dd false P) := by
  obtain ⟨a, b, h1, h2, h3⟩ := h
  obtain ⟨K, hK⟩ : ∃ K : Nat, K = 1074 := ⟨_, rfl⟩
  obtain ⟨f1, f2, f3, f4, f5⟩ := h3 K hK
  refine ⟨a, b, h1, h2, f1, by omega, by omega, fun dd => ?_⟩
  refine ref_mul dd s false a b a b P K hK f1 ⟨f1, Iff.rfl, fun d' p' t' _ => by rw [Int.add_zero], by omega, by omega⟩ (fun hx => f3 (fun hp => ?_)) f2
  rw [hp, Nat.zero_mul] at f2
  rcases Nat.mul_eq_zero.1 f2 with h | h
  · exact hx h
  · have := Nat.two_pow_pos (K + K); omega
theorem WF.iv {s : Bool} {a b P : Nat} (h : WF s a b P) (K : Nat) (hK : K = 1074) : rvI s a * ((2 ^ (K + K) : Nat) : Int) = (P : Int) * (b : Int) := by
  obtain ⟨h0, h1, h2, -, -⟩ := h K hK
  have h3 : ((a * 2 ^ (K + K) : Nat) : Int) = ((P * b : Nat) : Int) := by rw [h1]
  rw [Int.natCast_mul, Int.natCast_mul] at h3
  by_cases z : P = 0
  · rw [z, Nat.zero_mul] at h1
    have hp := Nat.two_pow_pos (K + K)
    rcases Nat.mul_eq_zero.1 h1 with h | h
    · rw [z, h]; unfold rvI; cases s <;> simp
    · omega
  · unfold rvI
    rw [h2 z, if_neg (by decide), h3]
theorem wcmp_ (B1 B2 : Nat) (V V' : Nat) (s : Bool) (p : Option Addr) (l c : Nat) (q : Option Addr) (k d : Nat) (s2 : Bool) (p2 : Option Addr) (l2 c2 : Nat) (q2 : Option Addr) (k2 d2 : Nat) (w : World) (h1 : WP B1 w s p l c q k d V) (h2 : WP B2 w s2 p2 l2 c2 q2 k2 d2 V') : Calls Tryz.prog 82 #[.agg #[.bool s, .slice p l c, .slice q k d], .agg #[.bool s2, .slice p2 l2 c2, .slice q2 k2 d2]] w fun e w' => e = .returned (.int .i64 (cmI V V')) ∧ Kp w w' := by
  obtain ⟨a, b, o1, o2, f1⟩ := h1
  obtain ⟨x, y, o3, o4, f2⟩ := h2
  obtain ⟨K, hK⟩ : ∃ K : Nat, K = 1074 := ⟨_, rfl⟩
  have i1 := f1.iv K hK
  have i2 := f2.iv K hK
  obtain ⟨zb, -, -, j1, j2⟩ := f1 K hK
  obtain ⟨zy, -, -, j3, j4⟩ := f2 K hK
  have h := rcmp6_ s p l c q k d s2 p2 l2 c2 q2 k2 d2 a b x y B1 B2 w o1 o2 o3 o4 zb zy (by omega) (by omega) (by omega) (by omega)
  have e : cmI (rvI s a * (y : Int)) (rvI s2 x * (b : Int)) = cmI V V' := by
    have pk : (0 : Int) < ((2 ^ (K + K) : Nat) : Int) := by have := Nat.two_pow_pos (K + K); omega
    have pb : (0 : Int) < (b : Int) * (y : Int) := Int.mul_pos (by omega) (by omega)
    rw [← cmI_scale _ _ _ pk, ← cmI_scale (V : Int) (V' : Int) _ pb]
    rw [Int.mul_right_comm, i1, Int.mul_right_comm (rvI s2 x), i2, Int.mul_assoc, Int.mul_assoc, Int.mul_comm (y : Int) (b : Int)]
  rw [e] at h
  exact h
theorem blen_mul9 (u v : Nat) (h1 : blen u ≤ 1500) (h2 : blen v ≤ 1500) : blen (u * v) ≤ 3000 := by
  obtain ⟨T5, hT5⟩ : ∃ T5 : Nat, T5 = 1500 := ⟨_, rfl⟩
  have g : blen (u * v) ≤ T5 + T5 := by
    rw [blen_le_iff, Nat.pow_add]
    exact Nat.mul_lt_mul'' ((blen_le_iff u T5).1 (by omega)) ((blen_le_iff v T5).1 (by omega))
  omega
/-- RMul of a number by itself -/
theorem wmul_ (n : Bool) (m : Nat) (s : Bool) (p : Option Addr) (l c : Nat) (q : Option Addr) (k d : Nat) (B1 : Nat) (w : World) (h1 : RP B1 w s p l c q k d n m) : Calls Tryz.prog 50 #[.agg #[.bool s, .slice p l c, .slice q k d], .agg #[.bool s, .slice p l c, .slice q k d]] w fun e w' => ∃ (s3 : Bool) (p3 : Option Addr) (l3 c3 : Nat) (q3 : Option Addr) (k3 d3 : Nat), e = .returned (.agg #[.bool s3, .slice p3 l3 c3, .slice q3 k3 d3]) ∧ WP w.heap.size w' s3 p3 l3 c3 q3 k3 d3 (Fq.vV Ieee.double m * Fq.vV Ieee.double m) ∧ Kp w w' := by
  obtain ⟨a, b, o1, o2, hf⟩ := h1
  obtain ⟨K, hK⟩ : ∃ K : Nat, K = 1074 := ⟨_, rfl⟩
  obtain ⟨f1, f2, f3, f4, f5⟩ := hf K hK
  obtain ⟨p', c', e1, u1, v1⟩ := o1.arr
  obtain ⟨q', d', e2, u2, v2⟩ := o2.arr
  simp at e1 e2
  obtain ⟨rfl, rfl, rfl⟩ := e1
  obtain ⟨rfl, rfl, rfl⟩ := e2
  have bX : blen (a * a) ≤ 3000 := blen_mul9 _ _ f4 f4
  have bD : blen (b * b) ≤ 3000 := blen_mul9 _ _ f5 f5
  refine (rmulO_ s s a b a b p q p q c d c d w u1 v1 u2 v2 u1 v1 u2 v2 (dlen a 4000 (by omega)) (dlen b 4000 (by omega)) (dlen a 4000 (by omega)) (dlen b 4000 (by omega)) f1 f1 _ _ rfl rfl (dlen _ 16000 (by omega)) (dlen _ 16000 (by omega))).mono ?_
  rintro e w' ⟨vn, vd, a', b', ng, rfl, q1, q2, ⟨q3, q5⟩, q4⟩
  obtain ⟨p3, c3, rfl, -, -⟩ := q1.arr
  obtain ⟨p4, c4, rfl, -, -⟩ := q2.arr
  refine ⟨ng, p3, _, c3, p4, _, c4, rfl, ⟨a', b', q1, q2, fun K hK => ?_⟩, q4⟩
  obtain ⟨f1, f2, f3, f4, f5⟩ := hf K hK
  have eX : a * a * 2 ^ (K + K) = Fq.vV Ieee.double m * Fq.vV Ieee.double m * (b * b) := by
    have h : a * a * 2 ^ (K + K) = a * 2 ^ K * (a * 2 ^ K) := by rw [Nat.pow_add]; simp only [Nat.mul_assoc, Nat.mul_left_comm]
    rw [h, f2]; simp only [Nat.mul_assoc, Nat.mul_left_comm]
  have hbb : b * b ≠ 0 := Nat.mul_ne_zero f1 f1
  refine ⟨q3.1, frac_exact9 (a * a) (b * b) a' b' (K + K) _ q3 hbb eX, fun hp => ?_, ?_, ?_⟩
  · have hx : a * a ≠ 0 := fun h0 => by
      rw [h0, Nat.zero_mul] at eX
      rcases Nat.mul_eq_zero.1 eX.symm with h | h
      · exact hp h
      · exact hbb h
    rw [q5 hx]; cases s <;> rfl
  · have g1 := q3.2.2.2.1; simp at g1; omega
  · have g1 := q3.2.2.2.2; simp at g1; omega
set_option linter.unusedVariables false
set_option maxRecDepth 20000 in
set_option maxHeartbeats 1000000 in
theorem prodZ_ (i S9 : Int) (s : Bool) (p : Option Addr) (l c : Nat) (q : Option Addr) (k d : Nat) (t : (S9 == 0) = true) (w : World) (hs : ∀ W : World, Kp w W → Calls Tryz.prog 35 #[.agg #[.int .i64 i, .bool s, .slice p l c, .slice q k d]] W fun e w' => e = .returned (.int .i64 S9) ∧ Kp W w') : Calls Tryz.prog 33 #[.agg #[.int .i64 i, .bool s, .slice p l c, .slice q k d], .agg #[.int .i64 i, .bool s, .slice p l c, .slice q k d]] w fun e w' => ∃ (s3 : Bool) (p3 : Option Addr) (l3 c3 : Nat) (q3 : Option Addr) (k3 d3 : Nat), e = .returned (.agg #[.int .i64 0, .bool s3, .slice p3 l3 c3, .slice q3 k3 d3]) ∧ RP 0 w' s3 p3 l3 c3 q3 k3 d3 false 0 ∧ (∀ b, b < w.heap.size → NB p3 q3 b) ∧ Kp w w' := by
  go_enter Tryz.func33, Tryz.ntmps33
  go_upto_region 1 with fail
  have AA := H4c.keep (H4c.keep (H4c.new w (.int .i64 i) (.bool s) (.slice p l c) (.slice q k d) 45) ((Kp.refl _).alloc (.cells #[.int .i64 i, .bool s, .slice p l c, .slice q k d] 45))) ((Kp.refl _).alloc (.cells #[.int .i64 0, .bool false, .slice none 0 0, .slice none 0 0] 45))
  have BB := H4c.keep (H4c.new (w.alloc (.cells #[.int .i64 i, .bool s, .slice p l c, .slice q k d] 45)) (.int .i64 i) (.bool s) (.slice p l c) (.slice q k d) 45) ((Kp.refl _).alloc (.cells #[.int .i64 0, .bool false, .slice none 0 0, .slice none 0 0] 45))
  have RR := H4c.new ((w.alloc (.cells #[.int .i64 i, .bool s, .slice p l c, .slice q k d] 45)).alloc (.cells #[.int .i64 i, .bool s, .slice p l c, .slice q k d] 45)) (.int .i64 0) (.bool false) (.slice none 0 0) (.slice none 0 0) 45
  have kW : Kp w (((w.alloc (.cells #[.int .i64 i, .bool s, .slice p l c, .slice q k d] 45)).alloc (.cells #[.int .i64 i, .bool s, .slice p l c, .slice q k d] 45)).alloc (.cells #[.int .i64 0, .bool false, .slice none 0 0, .slice none 0 0] 45)) := (((Kp.refl w).alloc _).alloc _).alloc _
  rw [show (w.alloc (.cells #[.int .i64 i, .bool s, .slice p l c, .slice q k d] 45)).heap.size = w.heap.size + 1 from by simp] at BB
  rw [show ((w.alloc (.cells #[.int .i64 i, .bool s, .slice p l c, .slice q k d] 45)).alloc (.cells #[.int .i64 i, .bool s, .slice p l c, .slice q k d] 45)).heap.size = w.heap.size + 2 from by simp] at RR
  generalize (((w.alloc (.cells #[.int .i64 i, .bool s, .slice p l c, .slice q k d] 45)).alloc (.cells #[.int .i64 i, .bool s, .slice p l c, .slice q k d] 45)).alloc (.cells #[.int .i64 0, .bool false, .slice none 0 0, .slice none 0 0] 45)) = W at AA BB RR kW ⊢
  obtain ⟨a0, a1, a2, a3, az0, az1, az2, az3⟩ := id AA; obtain ⟨b0, b1, b2, b3, bz0, bz1, bz2, bz3⟩ := id BB; obtain ⟨r0, r1, r2, r3, rz0, rz1, rz2, rz3⟩ := id RR
  go_wp2_with (first | (go_at_call 35; refine (hs _ kW).mono ?_; rintro e wv ⟨rfl, gv⟩; replace kW := Kp.trans kW gv; replace AA := H4c.keep AA gv; replace BB := H4c.keep BB gv; replace RR := H4c.keep RR gv; clear gv a0 a1 a2 a3 az0 az1 az2 az3 b0 b1 b2 b3 bz0 bz1 bz2 bz3 r0 r1 r2 r3 rz0 rz1 rz2 rz3; obtain ⟨a0, a1, a2, a3, az0, az1, az2, az3⟩ := id AA; obtain ⟨b0, b1, b2, b3, bz0, bz1, bz2, bz3⟩ := id BB; obtain ⟨r0, r1, r2, r3, rz0, rz1, rz2, rz3⟩ := id RR) | (go_at_call 36; refine (fin0_ _).mono ?_; rintro e wf ⟨s3, p3, l3, c3, q3, k3, d3, rfl, hp, gf⟩; have RF := H4c.keep RR gf; obtain ⟨f0, f1, f2, f3, f4, f5, f6, f7⟩ := id RF))
  have lR := RR.lt
  have lw := Below.size kW
  exact bodyPost_ret (v := .agg #[.int .i64 0, .bool s3, .slice p3 l3 c3, .slice q3 k3 d3]) (by simp [results, Tryz.results33, go_sem, f0, f1, f2, f3]) rfl ⟨s3, p3, l3, c3, q3, k3, d3, rfl, RP.mono (((((hp.mono (Nat.zero_le _)).setNe (x := ⟨w.heap.size + 2, 0, none⟩) (hp.nbLow lR) (.int .i64 0)).setNe (x := ⟨w.heap.size + 2, 1, none⟩) (hp.nbLow lR) (.bool s3)).setNe (x := ⟨w.heap.size + 2, 2, none⟩) (hp.nbLow lR) (.slice p3 l3 c3)).setNe (x := ⟨w.heap.size + 2, 3, none⟩) (hp.nbLow lR) (.slice q3 k3 d3)) (Nat.zero_le _), fun b hb => hp.nbLow (by omega), (((((Kp.trans kW gf)).setCell (by simp <;> omega) _).setCell (by simp <;> omega) _).setCell (by simp <;> omega) _).setCell (by simp <;> omega) _⟩
set_option maxRecDepth 20000 in
set_option maxHeartbeats 2000000 in
theorem prodP_ (s : Bool) (p : Option Addr) (l c : Nat) (q : Option Addr) (k d : Nat) (w : World) (hs : ∀ W : World, Kp w W → Calls Tryz.prog 35 #[.agg #[.int .i64 1, .bool s, .slice p l c, .slice q k d]] W fun e w' => e = .returned (.int .i64 1) ∧ Kp W w') : Calls Tryz.prog 33 #[.agg #[.int .i64 1, .bool s, .slice p l c, .slice q k d], .agg #[.int .i64 1, .bool s, .slice p l c, .slice q k d]] w fun e w' => ∃ (s3 : Bool) (p3 : Option Addr) (l3 c3 : Nat) (q3 : Option Addr) (k3 d3 : Nat), e = .returned (.agg #[.int .i64 1, .bool s3, .slice p3 l3 c3, .slice q3 k3 d3]) ∧ RP 0 w' s3 p3 l3 c3 q3 k3 d3 false 0 ∧ (∀ b, b < w.heap.size → NB p3 q3 b) ∧ Kp w w' := by
  go_enter Tryz.func33, Tryz.ntmps33
  go_upto_region 1 with fail
  have AA := H4c.keep (H4c.keep (H4c.new w (.int .i64 1) (.bool s) (.slice p l c) (.slice q k d) 45) ((Kp.refl _).alloc (.cells #[.int .i64 1, .bool s, .slice p l c, .slice q k d] 45))) ((Kp.refl _).alloc (.cells #[.int .i64 0, .bool false, .slice none 0 0, .slice none 0 0] 45))
  have BB := H4c.keep (H4c.new (w.alloc (.cells #[.int .i64 1, .bool s, .slice p l c, .slice q k d] 45)) (.int .i64 1) (.bool s) (.slice p l c) (.slice q k d) 45) ((Kp.refl _).alloc (.cells #[.int .i64 0, .bool false, .slice none 0 0, .slice none 0 0] 45))
  have RR := H4c.new ((w.alloc (.cells #[.int .i64 1, .bool s, .slice p l c, .slice q k d] 45)).alloc (.cells #[.int .i64 1, .bool s, .slice p l c, .slice q k d] 45)) (.int .i64 0) (.bool false) (.slice none 0 0) (.slice none 0 0) 45
  have kW : Kp w (((w.alloc (.cells #[.int .i64 1, .bool s, .slice p l c, .slice q k d] 45)).alloc (.cells #[.int .i64 1, .bool s, .slice p l c, .slice q k d] 45)).alloc (.cells #[.int .i64 0, .bool false, .slice none 0 0, .slice none 0 0] 45)) := (((Kp.refl w).alloc _).alloc _).alloc _
  rw [show (w.alloc (.cells #[.int .i64 1, .bool s, .slice p l c, .slice q k d] 45)).heap.size = w.heap.size + 1 from by simp] at BB
  rw [show ((w.alloc (.cells #[.int .i64 1, .bool s, .slice p l c, .slice q k d] 45)).alloc (.cells #[.int .i64 1, .bool s, .slice p l c, .slice q k d] 45)).heap.size = w.heap.size + 2 from by simp] at RR
  generalize (((w.alloc (.cells #[.int .i64 1, .bool s, .slice p l c, .slice q k d] 45)).alloc (.cells #[.int .i64 1, .bool s, .slice p l c, .slice q k d] 45)).alloc (.cells #[.int .i64 0, .bool false, .slice none 0 0, .slice none 0 0] 45)) = W at AA BB RR kW ⊢
  obtain ⟨a0, a1, a2, a3, az0, az1, az2, az3⟩ := id AA; obtain ⟨b0, b1, b2, b3, bz0, bz1, bz2, bz3⟩ := id BB; obtain ⟨r0, r1, r2, r3, rz0, rz1, rz2, rz3⟩ := id RR
  go_wp2_with (first | (go_at_call 35; refine (hs _ kW).mono ?_; rintro e wv ⟨rfl, gv⟩; replace kW := Kp.trans kW gv; replace AA := H4c.keep AA gv; replace BB := H4c.keep BB gv; replace RR := H4c.keep RR gv; clear gv a0 a1 a2 a3 az0 az1 az2 az3 b0 b1 b2 b3 bz0 bz1 bz2 bz3 r0 r1 r2 r3 rz0 rz1 rz2 rz3; obtain ⟨a0, a1, a2, a3, az0, az1, az2, az3⟩ := id AA; obtain ⟨b0, b1, b2, b3, bz0, bz1, bz2, bz3⟩ := id BB; obtain ⟨r0, r1, r2, r3, rz0, rz1, rz2, rz3⟩ := id RR))
  clear a0 a1 a2 a3 az0 az1 az2 az3 b0 b1 b2 b3 bz0 bz1 bz2 bz3 r0 r1 r2 r3 rz0 rz1 rz2 rz3
  generalize wv = W at AA BB RR kW ⊢
  obtain ⟨a0, a1, a2, a3, az0, az1, az2, az3⟩ := id AA; obtain ⟨b0, b1, b2, b3, bz0, bz1, bz2, bz3⟩ := id BB; obtain ⟨r0, r1, r2, r3, rz0, rz1, rz2, rz3⟩ := id RR
  have lR := RR.lt
  have lw := Below.size kW
  have ad0 : W.drew.cell? ⟨w.heap.size, 0, none⟩ = some (.int .i64 1) := a0
  have ad1 : W.drew.cell? ⟨w.heap.size, 1, none⟩ = some (.bool s) := a1
  have ad2 : W.drew.cell? ⟨w.heap.size, 2, none⟩ = some (.slice p l c) := a2
  have ad3 : W.drew.cell? ⟨w.heap.size, 3, none⟩ = some (.slice q k d) := a3
  have bd0 : W.drew.cell? ⟨w.heap.size + 1, 0, none⟩ = some (.int .i64 1) := b0
  have bd1 : W.drew.cell? ⟨w.heap.size + 1, 1, none⟩ = some (.bool s) := b1
  have bd2 : W.drew.cell? ⟨w.heap.size + 1, 2, none⟩ = some (.slice p l c) := b2
  have bd3 : W.drew.cell? ⟨w.heap.size + 1, 3, none⟩ = some (.slice q k d) := b3
  go_region_held3 (fun w' => w'.cell? ⟨w.heap.size, 0, none⟩ = some (.int .i64 1) ∧ w'.cell? ⟨w.heap.size, 1, none⟩ = some (.bool s) ∧ w'.cell? ⟨w.heap.size, 2, none⟩ = some (.slice p l c) ∧ w'.cell? ⟨w.heap.size, 3, none⟩ = some (.slice q k d) ∧ w'.cell? ⟨w.heap.size + 1, 0, none⟩ = some (.int .i64 1) ∧ w'.cell? ⟨w.heap.size + 1, 1, none⟩ = some (.bool s) ∧ w'.cell? ⟨w.heap.size + 1, 2, none⟩ = some (.slice p l c) ∧ w'.cell? ⟨w.heap.size + 1, 3, none⟩ = some (.slice q k d)) (first | (with_reducible exact ⟨a0, a1, a2, a3, b0, b1, b2, b3⟩) | (with_reducible exact ⟨ad0, ad1, ad2, ad3, bd0, bd1, bd2, bd3⟩) | (with_reducible exact ⟨i0, i1, i2, i3, j0, j1, j2, j3⟩) | (with_reducible exact ⟨m0, m1, m2, m3, n0, n1, n2, n3⟩) | (with_reducible exact ⟨u0, u1, u2, u3, v0, v1, v2, v3⟩) | (exact ⟨(H4c.far1 (H4c.far1 (H4c.far1 (H4c.far1 A3 ⟨w.heap.size + 2, 0, none⟩ (by simp) _) ⟨w.heap.size + 2, 1, none⟩ (by simp) _) ⟨w.heap.size + 2, 2, none⟩ (by simp) _) ⟨w.heap.size + 2, 3, none⟩ (by simp) _).1, (H4c.far1 (H4c.far1 (H4c.far1 (H4c.far1 A3 ⟨w.heap.size + 2, 0, none⟩ (by simp) _) ⟨w.heap.size + 2, 1, none⟩ (by simp) _) ⟨w.heap.size + 2, 2, none⟩ (by simp) _) ⟨w.heap.size + 2, 3, none⟩ (by simp) _).2.1, (H4c.far1 (H4c.far1 (H4c.far1 (H4c.far1 A3 ⟨w.heap.size + 2, 0, none⟩ (by simp) _) ⟨w.heap.size + 2, 1, none⟩ (by simp) _) ⟨w.heap.size + 2, 2, none⟩ (by simp) _) ⟨w.heap.size + 2, 3, none⟩ (by simp) _).2.2.1, (H4c.far1 (H4c.far1 (H4c.far1 (H4c.far1 A3 ⟨w.heap.size + 2, 0, none⟩ (by simp) _) ⟨w.heap.size + 2, 1, none⟩ (by simp) _) ⟨w.heap.size + 2, 2, none⟩ (by simp) _) ⟨w.heap.size + 2, 3, none⟩ (by simp) _).2.2.2.1, (H4c.far1 (H4c.far1 (H4c.far1 (H4c.far1 B3 ⟨w.heap.size + 2, 0, none⟩ (by simp) _) ⟨w.heap.size + 2, 1, none⟩ (by simp) _) ⟨w.heap.size + 2, 2, none⟩ (by simp) _) ⟨w.heap.size + 2, 3, none⟩ (by simp) _).1, (H4c.far1 (H4c.far1 (H4c.far1 (H4c.far1 B3 ⟨w.heap.size + 2, 0, none⟩ (by simp) _) ⟨w.heap.size + 2, 1, none⟩ (by simp) _) ⟨w.heap.size + 2, 2, none⟩ (by simp) _) ⟨w.heap.size + 2, 3, none⟩ (by simp) _).2.1, (H4c.far1 (H4c.far1 (H4c.far1 (H4c.far1 B3 ⟨w.heap.size + 2, 0, none⟩ (by simp) _) ⟨w.heap.size + 2, 1, none⟩ (by simp) _) ⟨w.heap.size + 2, 2, none⟩ (by simp) _) ⟨w.heap.size + 2, 3, none⟩ (by simp) _).2.2.1, (H4c.far1 (H4c.far1 (H4c.far1 (H4c.far1 B3 ⟨w.heap.size + 2, 0, none⟩ (by simp) _) ⟨w.heap.size + 2, 1, none⟩ (by simp) _) ⟨w.heap.size + 2, 2, none⟩ (by simp) _) ⟨w.heap.size + 2, 3, none⟩ (by simp) _).2.2.2.1⟩)) (first | (go_at_call 49; refine (int0_ _).mono ?_; rintro e w3 ⟨s3, p3, l3, c3, q3, k3, d3, rfl, hp, g3⟩; have K3 : Kp W w3 := Kp.trans K2 g3; have A3 := H4c.keep AA K3; have B3 := H4c.keep BB K3; obtain ⟨u0, u1, u2, u3, _, _, _, _⟩ := id A3; obtain ⟨v0, v1, v2, v3, _, _, _, _⟩ := id B3; have R3 := H4c.keep RR K3; obtain ⟨f0, f1, f2, f3, f4, f5, f6, f7⟩ := id R3) | (go_at_call 35; refine (hs _ (Kp.trans kW K1)).mono ?_; rintro e w2 ⟨rfl, g2⟩; have K2 : Kp W w2 := Kp.trans K1 g2; obtain ⟨m0, m1, m2, m3, _, _, _, _⟩ := H4c.keep AA K2; obtain ⟨n0, n1, n2, n3, _, _, _, _⟩ := H4c.keep BB K2) | (go_at_call 35; refine (hs _ (kW.drew)).mono ?_; rintro e w1 ⟨rfl, g1⟩; have K1 : Kp W w1 := Kp.trans (Kp.drew (Kp.refl _)) g1; obtain ⟨i0, i1, i2, i3, _, _, _, _⟩ := H4c.keep AA K1; obtain ⟨j0, j1, j2, j3, _, _, _, _⟩ := H4c.keep BB K1))
  go_wp2
  have l2 := Below.size K2
  exact bodyPost_ret (v := .agg #[.int .i64 1, .bool s3, .slice p3 l3 c3, .slice q3 k3 d3]) (by simp [results, Tryz.results33, go_sem, f0, f1, f2, f3] <;> decide +kernel) rfl ⟨s3, p3, l3, c3, q3, k3, d3, rfl, RP.mono (((((hp.mono (Nat.zero_le _)).setNe (x := ⟨w.heap.size + 2, 0, none⟩) (hp.nbLow (Nat.lt_of_lt_of_le lR l2)) (.int .i64 1)).setNe (x := ⟨w.heap.size + 2, 1, none⟩) (hp.nbLow (Nat.lt_of_lt_of_le lR l2)) (.bool s3)).setNe (x := ⟨w.heap.size + 2, 2, none⟩) (hp.nbLow (Nat.lt_of_lt_of_le lR l2)) (.slice p3 l3 c3)).setNe (x := ⟨w.heap.size + 2, 3, none⟩) (hp.nbLow (Nat.lt_of_lt_of_le lR l2)) (.slice q3 k3 d3)) (Nat.zero_le _), fun b hb => hp.nbLow (by omega), (((((Kp.trans kW K3)).setCell (by simp <;> omega) _).setCell (by simp <;> omega) _).setCell (by simp <;> omega) _).setCell (by simp <;> omega) _⟩
set_option maxRecDepth 20000 in
set_option maxHeartbeats 2000000 in
theorem prodM_ (s : Bool) (p : Option Addr) (l c : Nat) (q : Option Addr) (k d : Nat) (w : World) (hs : ∀ W : World, Kp w W → Calls Tryz.prog 35 #[.agg #[.int .i64 (-1), .bool s, .slice p l c, .slice q k d]] W fun e w' => e = .returned (.int .i64 (-1)) ∧ Kp W w') : Calls Tryz.prog 33 #[.agg #[.int .i64 (-1), .bool s, .slice p l c, .slice q k d], .agg #[.int .i64 (-1), .bool s, .slice p l c, .slice q k d]] w fun e w' => ∃ (s3 : Bool) (p3 : Option Addr) (l3 c3 : Nat) (q3 : Option Addr) (k3 d3 : Nat), e = .returned (.agg #[.int .i64 1, .bool s3, .slice p3 l3 c3, .slice q3 k3 d3]) ∧ RP 0 w' s3 p3 l3 c3 q3 k3 d3 false 0 ∧ (∀ b, b < w.heap.size → NB p3 q3 b) ∧ Kp w w' := by
  go_enter Tryz.func33, Tryz.ntmps33
  go_upto_region 1 with fail
  have AA := H4c.keep (H4c.keep (H4c.new w (.int .i64 (-1)) (.bool s) (.slice p l c) (.slice q k d) 45) ((Kp.refl _).alloc (.cells #[.int .i64 (-1), .bool s, .slice p l c, .slice q k d] 45))) ((Kp.refl _).alloc (.cells #[.int .i64 0, .bool false, .slice none 0 0, .slice none 0 0] 45))
  have BB := H4c.keep (H4c.new (w.alloc (.cells #[.int .i64 (-1), .bool s, .slice p l c, .slice q k d] 45)) (.int .i64 (-1)) (.bool s) (.slice p l c) (.slice q k d) 45) ((Kp.refl _).alloc (.cells #[.int .i64 0, .bool false, .slice none 0 0, .slice none 0 0] 45))
  have RR := H4c.new ((w.alloc (.cells #[.int .i64 (-1), .bool s, .slice p l c, .slice q k d] 45)).alloc (.cells #[.int .i64 (-1), .bool s, .slice p l c, .slice q k d] 45)) (.int .i64 0) (.bool false) (.slice none 0 0) (.slice none 0 0) 45
  have kW : Kp w (((w.alloc (.cells #[.int .i64 (-1), .bool s, .slice p l c, .slice q k d] 45)).alloc (.cells #[.int .i64 (-1), .bool s, .slice p l c, .slice q k d] 45)).alloc (.cells #[.int .i64 0, .bool false, .slice none 0 0, .slice none 0 0] 45)) := (((Kp.refl w).alloc _).alloc _).alloc _
  rw [show (w.alloc (.cells #[.int .i64 (-1), .bool s, .slice p l c, .slice q k d] 45)).heap.size = w.heap.size + 1 from by simp] at BB
  rw [show ((w.alloc (.cells #[.int .i64 (-1), .bool s, .slice p l c, .slice q k d] 45)).alloc (.cells #[.int .i64 (-1), .bool s, .slice p l c, .slice q k d] 45)).heap.size = w.heap.size + 2 from by simp] at RR
  generalize (((w.alloc (.cells #[.int .i64 (-1), .bool s, .slice p l c, .slice q k d] 45)).alloc (.cells #[.int .i64 (-1), .bool s, .slice p l c, .slice q k d] 45)).alloc (.cells #[.int .i64 0, .bool false, .slice none 0 0, .slice none 0 0] 45)) = W at AA BB RR kW ⊢
  obtain ⟨a0, a1, a2, a3, az0, az1, az2, az3⟩ := id AA; obtain ⟨b0, b1, b2, b3, bz0, bz1, bz2, bz3⟩ := id BB; obtain ⟨r0, r1, r2, r3, rz0, rz1, rz2, rz3⟩ := id RR
  go_wp2_with (first | (go_at_call 35; refine (hs _ kW).mono ?_; rintro e wv ⟨rfl, gv⟩; replace kW := Kp.trans kW gv; replace AA := H4c.keep AA gv; replace BB := H4c.keep BB gv; replace RR := H4c.keep RR gv; clear gv a0 a1 a2 a3 az0 az1 az2 az3 b0 b1 b2 b3 bz0 bz1 bz2 bz3 r0 r1 r2 r3 rz0 rz1 rz2 rz3; obtain ⟨a0, a1, a2, a3, az0, az1, az2, az3⟩ := id AA; obtain ⟨b0, b1, b2, b3, bz0, bz1, bz2, bz3⟩ := id BB; obtain ⟨r0, r1, r2, r3, rz0, rz1, rz2, rz3⟩ := id RR))
  clear a0 a1 a2 a3 az0 az1 az2 az3 b0 b1 b2 b3 bz0 bz1 bz2 bz3 r0 r1 r2 r3 rz0 rz1 rz2 rz3
  generalize wv = W at AA BB RR kW ⊢
  obtain ⟨a0, a1, a2, a3, az0, az1, az2, az3⟩ := id AA; obtain ⟨b0, b1, b2, b3, bz0, bz1, bz2, bz3⟩ := id BB; obtain ⟨r0, r1, r2, r3, rz0, rz1, rz2, rz3⟩ := id RR
  have lR := RR.lt
  have lw := Below.size kW
  have ad0 : W.drew.cell? ⟨w.heap.size, 0, none⟩ = some (.int .i64 (-1)) := a0
  have ad1 : W.drew.cell? ⟨w.heap.size, 1, none⟩ = some (.bool s) := a1
  have ad2 : W.drew.cell? ⟨w.heap.size, 2, none⟩ = some (.slice p l c) := a2
  have ad3 : W.drew.cell? ⟨w.heap.size, 3, none⟩ = some (.slice q k d) := a3
  have bd0 : W.drew.cell? ⟨w.heap.size + 1, 0, none⟩ = some (.int .i64 (-1)) := b0
  have bd1 : W.drew.cell? ⟨w.heap.size + 1, 1, none⟩ = some (.bool s) := b1
  have bd2 : W.drew.cell? ⟨w.heap.size + 1, 2, none⟩ = some (.slice p l c) := b2
  have bd3 : W.drew.cell? ⟨w.heap.size + 1, 3, none⟩ = some (.slice q k d) := b3
  go_region_held3 (fun w' => w'.cell? ⟨w.heap.size, 0, none⟩ = some (.int .i64 (-1)) ∧ w'.cell? ⟨w.heap.size, 1, none⟩ = some (.bool s) ∧ w'.cell? ⟨w.heap.size, 2, none⟩ = some (.slice p l c) ∧ w'.cell? ⟨w.heap.size, 3, none⟩ = some (.slice q k d) ∧ w'.cell? ⟨w.heap.size + 1, 0, none⟩ = some (.int .i64 (-1)) ∧ w'.cell? ⟨w.heap.size + 1, 1, none⟩ = some (.bool s) ∧ w'.cell? ⟨w.heap.size + 1, 2, none⟩ = some (.slice p l c) ∧ w'.cell? ⟨w.heap.size + 1, 3, none⟩ = some (.slice q k d)) (first | (with_reducible exact ⟨a0, a1, a2, a3, b0, b1, b2, b3⟩) | (with_reducible exact ⟨ad0, ad1, ad2, ad3, bd0, bd1, bd2, bd3⟩) | (with_reducible exact ⟨i0, i1, i2, i3, j0, j1, j2, j3⟩) | (with_reducible exact ⟨m0, m1, m2, m3, n0, n1, n2, n3⟩) | (with_reducible exact ⟨u0, u1, u2, u3, v0, v1, v2, v3⟩) | (exact ⟨(H4c.far1 (H4c.far1 (H4c.far1 (H4c.far1 A3 ⟨w.heap.size + 2, 0, none⟩ (by simp) _) ⟨w.heap.size + 2, 1, none⟩ (by simp) _) ⟨w.heap.size + 2, 2, none⟩ (by simp) _) ⟨w.heap.size + 2, 3, none⟩ (by simp) _).1, (H4c.far1 (H4c.far1 (H4c.far1 (H4c.far1 A3 ⟨w.heap.size + 2, 0, none⟩ (by simp) _) ⟨w.heap.size + 2, 1, none⟩ (by simp) _) ⟨w.heap.size + 2, 2, none⟩ (by simp) _) ⟨w.heap.size + 2, 3, none⟩ (by simp) _).2.1, (H4c.far1 (H4c.far1 (H4c.far1 (H4c.far1 A3 ⟨w.heap.size + 2, 0, none⟩ (by simp) _) ⟨w.heap.size + 2, 1, none⟩ (by simp) _) ⟨w.heap.size + 2, 2, none⟩ (by simp) _) ⟨w.heap.size + 2, 3, none⟩ (by simp) _).2.2.1, (H4c.far1 (H4c.far1 (H4c.far1 (H4c.far1 A3 ⟨w.heap.size + 2, 0, none⟩ (by simp) _) ⟨w.heap.size + 2, 1, none⟩ (by simp) _) ⟨w.heap.size + 2, 2, none⟩ (by simp) _) ⟨w.heap.size + 2, 3, none⟩ (by simp) _).2.2.2.1, (H4c.far1 (H4c.far1 (H4c.far1 (H4c.far1 B3 ⟨w.heap.size + 2, 0, none⟩ (by simp) _) ⟨w.heap.size + 2, 1, none⟩ (by simp) _) ⟨w.heap.size + 2, 2, none⟩ (by simp) _) ⟨w.heap.size + 2, 3, none⟩ (by simp) _).1, (H4c.far1 (H4c.far1 (H4c.far1 (H4c.far1 B3 ⟨w.heap.size + 2, 0, none⟩ (by simp) _) ⟨w.heap.size + 2, 1, none⟩ (by simp) _) ⟨w.heap.size + 2, 2, none⟩ (by simp) _) ⟨w.heap.size + 2, 3, none⟩ (by simp) _).2.1, (H4c.far1 (H4c.far1 (H4c.far1 (H4c.far1 B3 ⟨w.heap.size + 2, 0, none⟩ (by simp) _) ⟨w.heap.size + 2, 1, none⟩ (by simp) _) ⟨w.heap.size + 2, 2, none⟩ (by simp) _) ⟨w.heap.size + 2, 3, none⟩ (by simp) _).2.2.1, (H4c.far1 (H4c.far1 (H4c.far1 (H4c.far1 B3 ⟨w.heap.size + 2, 0, none⟩ (by simp) _) ⟨w.heap.size + 2, 1, none⟩ (by simp) _) ⟨w.heap.size + 2, 2, none⟩ (by simp) _) ⟨w.heap.size + 2, 3, none⟩ (by simp) _).2.2.2.1⟩)) (first | (go_at_call 49; refine (int0_ _).mono ?_; rintro e w3 ⟨s3, p3, l3, c3, q3, k3, d3, rfl, hp, g3⟩; have K3 : Kp W w3 := Kp.trans K2 g3; have A3 := H4c.keep AA K3; have B3 := H4c.keep BB K3; obtain ⟨u0, u1, u2, u3, _, _, _, _⟩ := id A3; obtain ⟨v0, v1, v2, v3, _, _, _, _⟩ := id B3; have R3 := H4c.keep RR K3; obtain ⟨f0, f1, f2, f3, f4, f5, f6, f7⟩ := id R3) | (go_at_call 35; refine (hs _ (Kp.trans kW K1)).mono ?_; rintro e w2 ⟨rfl, g2⟩; have K2 : Kp W w2 := Kp.trans K1 g2; obtain ⟨m0, m1, m2, m3, _, _, _, _⟩ := H4c.keep AA K2; obtain ⟨n0, n1, n2, n3, _, _, _, _⟩ := H4c.keep BB K2) | (go_at_call 35; refine (hs _ (kW.drew)).mono ?_; rintro e w1 ⟨rfl, g1⟩; have K1 : Kp W w1 := Kp.trans (Kp.drew (Kp.refl _)) g1; obtain ⟨i0, i1, i2, i3, _, _, _, _⟩ := H4c.keep AA K1; obtain ⟨j0, j1, j2, j3, _, _, _, _⟩ := H4c.keep BB K1))
  go_wp2
  have l2 := Below.size K2
  exact bodyPost_ret (v := .agg #[.int .i64 1, .bool s3, .slice p3 l3 c3, .slice q3 k3 d3]) (by simp [results, Tryz.results33, go_sem, f0, f1, f2, f3] <;> decide +kernel) rfl ⟨s3, p3, l3, c3, q3, k3, d3, rfl, RP.mono (((((hp.mono (Nat.zero_le _)).setNe (x := ⟨w.heap.size + 2, 0, none⟩) (hp.nbLow (Nat.lt_of_lt_of_le lR l2)) (.int .i64 1)).setNe (x := ⟨w.heap.size + 2, 1, none⟩) (hp.nbLow (Nat.lt_of_lt_of_le lR l2)) (.bool s3)).setNe (x := ⟨w.heap.size + 2, 2, none⟩) (hp.nbLow (Nat.lt_of_lt_of_le lR l2)) (.slice p3 l3 c3)).setNe (x := ⟨w.heap.size + 2, 3, none⟩) (hp.nbLow (Nat.lt_of_lt_of_le lR l2)) (.slice q3 k3 d3)) (Nat.zero_le _), fun b hb => hp.nbLow (by omega), (((((Kp.trans kW K3)).setCell (by simp <;> omega) _).setCell (by simp <;> omega) _).setCell (by simp <;> omega) _).setCell (by simp <;> omega) _⟩
set_option maxRecDepth 20000 in
set_option maxHeartbeats 1000000 in
theorem prodF_ (S9 : Int) (P : Nat) (s : Bool) (p : Option Addr) (l c : Nat) (q : Option Addr) (k d : Nat) (t : (S9 == 0) = false) (w : World) (hs : ∀ W : World, Kp w W → Calls Tryz.prog 35 #[.agg #[.int .i64 0, .bool s, .slice p l c, .slice q k d]] W fun e w' => e = .returned (.int .i64 S9) ∧ Kp W w') (hR : ∀ W : World, Kp w W → Calls Tryz.prog 50 #[.agg #[.bool s, .slice p l c, .slice q k d], .agg #[.bool s, .slice p l c, .slice q k d]] W fun e w' => ∃ (s3 : Bool) (p3 : Option Addr) (l3 c3 : Nat) (q3 : Option Addr) (k3 d3 : Nat), e = .returned (.agg #[.bool s3, .slice p3 l3 c3, .slice q3 k3 d3]) ∧ WP W.heap.size w' s3 p3 l3 c3 q3 k3 d3 P ∧ Kp W w') : Calls Tryz.prog 33 #[.agg #[.int .i64 0, .bool s, .slice p l c, .slice q k d], .agg #[.int .i64 0, .bool s, .slice p l c, .slice q k d]] w fun e w' => ∃ (s3 : Bool) (p3 : Option Addr) (l3 c3 : Nat) (q3 : Option Addr) (k3 d3 : Nat), e = .returned (.agg #[.int .i64 0, .bool s3, .slice p3 l3 c3, .slice q3 k3 d3]) ∧ WP 0 w' s3 p3 l3 c3 q3 k3 d3 P ∧ (∀ b, b < w.heap.size → NB p3 q3 b) ∧ Kp w w' := by
  go_enter Tryz.func33, Tryz.ntmps33
  go_upto_region 1 with fail
  have AA := H4c.keep (H4c.keep (H4c.new w (.int .i64 0) (.bool s) (.slice p l c) (.slice q k d) 45) ((Kp.refl _).alloc (.cells #[.int .i64 0, .bool s, .slice p l c, .slice q k d] 45))) ((Kp.refl _).alloc (.cells #[.int .i64 0, .bool false, .slice none 0 0, .slice none 0 0] 45))
  have BB := H4c.keep (H4c.new (w.alloc (.cells #[.int .i64 0, .bool s, .slice p l c, .slice q k d] 45)) (.int .i64 0) (.bool s) (.slice p l c) (.slice q k d) 45) ((Kp.refl _).alloc (.cells #[.int .i64 0, .bool false, .slice none 0 0, .slice none 0 0] 45))
  have RR := H4c.new ((w.alloc (.cells #[.int .i64 0, .bool s, .slice p l c, .slice q k d] 45)).alloc (.cells #[.int .i64 0, .bool s, .slice p l c, .slice q k d] 45)) (.int .i64 0) (.bool false) (.slice none 0 0) (.slice none 0 0) 45
  have kW : Kp w (((w.alloc (.cells #[.int .i64 0, .bool s, .slice p l c, .slice q k d] 45)).alloc (.cells #[.int .i64 0, .bool s, .slice p l c, .slice q k d] 45)).alloc (.cells #[.int .i64 0, .bool false, .slice none 0 0, .slice none 0 0] 45)) := (((Kp.refl w).alloc _).alloc _).alloc _
  rw [show (w.alloc (.cells #[.int .i64 0, .bool s, .slice p l c, .slice q k d] 45)).heap.size = w.heap.size + 1 from by simp] at BB
  rw [show ((w.alloc (.cells #[.int .i64 0, .bool s, .slice p l c, .slice q k d] 45)).alloc (.cells #[.int .i64 0, .bool s, .slice p l c, .slice q k d] 45)).heap.size = w.heap.size + 2 from by simp] at RR
  generalize (((w.alloc (.cells #[.int .i64 0, .bool s, .slice p l c, .slice q k d] 45)).alloc (.cells #[.int .i64 0, .bool s, .slice p l c, .slice q k d] 45)).alloc (.cells #[.int .i64 0, .bool false, .slice none 0 0, .slice none 0 0] 45)) = W at AA BB RR kW ⊢
  obtain ⟨a0, a1, a2, a3, az0, az1, az2, az3⟩ := id AA; obtain ⟨b0, b1, b2, b3, bz0, bz1, bz2, bz3⟩ := id BB; obtain ⟨r0, r1, r2, r3, rz0, rz1, rz2, rz3⟩ := id RR
  go_wp2_with (first | (go_at_call 35; refine (hs _ kW).mono ?_; rintro e wv ⟨rfl, gv⟩; replace kW := Kp.trans kW gv; replace AA := H4c.keep AA gv; replace BB := H4c.keep BB gv; replace RR := H4c.keep RR gv; clear gv a0 a1 a2 a3 az0 az1 az2 az3 b0 b1 b2 b3 bz0 bz1 bz2 bz3 r0 r1 r2 r3 rz0 rz1 rz2 rz3; obtain ⟨a0, a1, a2, a3, az0, az1, az2, az3⟩ := id AA; obtain ⟨b0, b1, b2, b3, bz0, bz1, bz2, bz3⟩ := id BB; obtain ⟨r0, r1, r2, r3, rz0, rz1, rz2, rz3⟩ := id RR) | (go_at_call 50; refine (hR _ kW).mono ?_; rintro e wf ⟨s3, p3, l3, c3, q3, k3, d3, rfl, hp, gf⟩; have RF := H4c.keep RR gf; obtain ⟨f0, f1, f2, f3, f4, f5, f6, f7⟩ := id RF))
  have lR := RR.lt
  have lw := Below.size kW
  exact bodyPost_ret (v := .agg #[.int .i64 0, .bool s3, .slice p3 l3 c3, .slice q3 k3 d3]) (by simp [results, Tryz.results33, go_sem, f0, f1, f2, f3]) rfl ⟨s3, p3, l3, c3, q3, k3, d3, rfl, WP.mono (((((hp.mono (Nat.zero_le _)).setNe (x := ⟨w.heap.size + 2, 0, none⟩) (hp.nbLow lR) (.int .i64 0)).setNe (x := ⟨w.heap.size + 2, 1, none⟩) (hp.nbLow lR) (.bool s3)).setNe (x := ⟨w.heap.size + 2, 2, none⟩) (hp.nbLow lR) (.slice p3 l3 c3)).setNe (x := ⟨w.heap.size + 2, 3, none⟩) (hp.nbLow lR) (.slice q3 k3 d3)) (Nat.zero_le _), fun b hb => hp.nbLow (by omega), (((((Kp.trans kW gf)).setCell (by simp <;> omega) _).setCell (by simp <;> omega) _).setCell (by simp <;> omega) _).setCell (by simp <;> omega) _⟩

/-- a size's square, in squared least places; 0 beside an infinity -/
def sq7 (m : Nat) : Nat := if m = 9218868437227405312 then 0 else Fq.vV Ieee.double m * Fq.vV Ieee.double m
theorem prod7_ (n : Bool) (m : Nat) (hm : m ≤ 9218868437227405312) (s : Bool) (p : Option Addr) (l c : Nat) (q : Option Addr) (k d : Nat) (B1 : Nat) (w : World) (h : RP B1 w s p l c q k d (fN n m) (fM m)) (W : World) (g : Kp w W) : Calls Tryz.prog 33 #[.agg #[.int .i64 (infS n m), .bool s, .slice p l c, .slice q k d], .agg #[.int .i64 (infS n m), .bool s, .slice p l c, .slice q k d]] W fun e w' => ∃ (s3 : Bool) (p3 : Option Addr) (l3 c3 : Nat) (q3 : Option Addr) (k3 d3 : Nat), e = .returned (.agg #[.int .i64 (infS false m), .bool s3, .slice p3 l3 c3, .slice q3 k3 d3]) ∧ WP 0 w' s3 p3 l3 c3 q3 k3 d3 (sq7 m) ∧ (∀ b, b < W.heap.size → NB p3 q3 b) ∧ Kp W w' := by
  have hs := fun (V : World) (y : Kp W V) => signE_ n m s p l c q k d B1 V ((h.kp g).kp y)
  have P1 : Fq.plz n m = if n then -(m : Int) else m := by unfold Fq.plz; cases n <;> rfl
  by_cases ci : m = 9218868437227405312
  · have e1 : sq7 m = 0 := by unfold sq7; rw [if_pos ci]
    have e2 : infS false m = 1 := by unfold infS; simp [ci]
    rw [e1, e2]
    cases n with
    | false =>
      have e3 : cmI (Fq.plz false m) 0 = 1 := by rw [P1, ci]; decide +kernel
      rw [e3, e2] at hs
      rw [e2]
      refine (prodP_ s p l c q k d W hs).mono ?_
      rintro e w' ⟨s3, p3, l3, c3, q3, k3, d3, rfl, h1, h2, h3⟩
      exact ⟨s3, p3, l3, c3, q3, k3, d3, rfl, h1.wp0, h2, h3⟩
    | true =>
      have e4 : infS true m = -1 := by unfold infS; simp [ci]
      have e3 : cmI (Fq.plz true m) 0 = -1 := by rw [P1, ci]; decide +kernel
      rw [e3, e4] at hs
      rw [e4]
      refine (prodM_ s p l c q k d W hs).mono ?_
      rintro e w' ⟨s3, p3, l3, c3, q3, k3, d3, rfl, h1, h2, h3⟩
      exact ⟨s3, p3, l3, c3, q3, k3, d3, rfl, h1.wp0, h2, h3⟩
  · have e2 : infS false m = 0 := by unfold infS; simp [ci]
    have e4 : infS n m = 0 := by unfold infS; simp [ci]
    rw [e4] at hs
    rw [e2, e4]
    by_cases z : m = 0
    · have e1 : sq7 m = 0 := by unfold sq7; rw [z, Fq.vV_zero]; rfl
      have e3 : cmI (Fq.plz n m) 0 = 0 := by rw [P1, z]; cases n <;> decide +kernel
      rw [e1]
      rw [e3] at hs
      refine (prodZ_ 0 0 s p l c q k d rfl W hs).mono ?_
      rintro e w' ⟨s3, p3, l3, c3, q3, k3, d3, rfl, h1, h2, h3⟩
      exact ⟨s3, p3, l3, c3, q3, k3, d3, rfl, h1.wp0, h2, h3⟩
    · have e1 : sq7 m = Fq.vV Ieee.double m * Fq.vV Ieee.double m := by unfold sq7; rw [if_neg ci]
      rw [e1]
      have hR := fun (V : World) (y : Kp W V) => wmul_ (fN n m) (fM m) s p l c q k d B1 V ((h.kp g).kp y)
      rw [show fM m = m from by unfold fM; rw [if_neg ci]] at hR
      refine prodF_ _ _ s p l c q k d ?_ W hs hR
      rw [P1]
      unfold cmI
      cases n <;> simp <;> split <;> first | rfl | omega | (split <;> first | rfl | omega)

/-- a set that is not empty is answered, its ends squares -/
def SqQ (ia ib : Int) (Pa Pb : Nat) (e : Ending) (w' : World) : Prop := ∃ (s3 : Bool) (p3 : Option Addr) (l3 c3 : Nat) (q3 : Option Addr) (k3 d3 : Nat) (s5 : Bool) (p5 : Option Addr) (l5 c5 : Nat) (q5 : Option Addr) (k5 d5 : Nat), e = .returned (.agg #[.bool false, .int .i64 ia, .bool s3, .slice p3 l3 c3, .slice q3 k3 d3, .int .i64 ib, .bool s5, .slice p5 l5 c5, .slice q5 k5 d5]) ∧ WP 0 w' s3 p3 l3 c3 q3 k3 d3 Pa ∧ WP 0 w' s5 p5 l5 c5 q5 k5 d5 Pb
end Go.Proofs.YtidpeakojcgngaaGreatDoor
