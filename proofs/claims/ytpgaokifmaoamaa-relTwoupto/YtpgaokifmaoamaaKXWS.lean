import Derived.Test.YtpgaokifmaoamaaProg
import Derived.Test.YtpgaokifmaoamaaKXA0
import Derived.Test.YtpgaokifmaoamaaKXQF
import Derived.Test.YtpgaokifmaoamaaKQA
import Derived.Test.YtpgaokifmaoamaaKXQU
import Derived.Test.YtpgaokifmaoamaaKXEA
import Derived.Test.YtpgaokifmaoamaaKXNR
import Derived.Test.YtpgaokifmaoamaaKXM
import Derived.Test.YtpgaokifmaoamaaKXY
import Derived.Test.YtpgaokifmaoamaaKXEE
import Derived.Test.YtpgaokifmaoamaaKMR7Q
import Derived.Test.YtpgaokifmaoamaaKXMR
import Derived.Test.YtpgaokifmaoamaaKXM3
import Derived.Test.YtpgaokifmaoamaaKXO
import Derived.Test.YtpgaokifmaoamaaKXO3
import Derived.Test.YtpgaokifmaoamaaKXT
import Derived.Test.YtpgaokifmaoamaaKXLB
import Derived.Test.YtpgaokifmaoamaaKRX
import Derived.Test.YtpgaokifmaoamaaKXRL
import Derived.Test.YtpgaokifmaoamaaKXCO
import Derived.Test.YtpgaokifmaoamaaKLN
import Derived.Test.YtpgaokifmaoamaaKXRN
import Derived.Test.YtpgaokifmaoamaaKW4
import Derived.Test.YtpgaokifmaoamaaKBY
import Derived.Test.YtpgaokifmaoamaaKBW
import Derived.Test.YtpgaokifmaoamaaKXTZ
import Derived.Test.YtpgaokifmaoamaaKXG1
import Derived.Test.YtpgaokifmaoamaaKNSm
import Derived.Test.YtpgaokifmaoamaaKXH2Q
import Derived.Test.YtpgaokifmaoamaaKXG4
import Derived.Test.YtpgaokifmaoamaaKEKF
import Derived.Test.YtpgaokifmaoamaaKXET
import Derived.Test.YtpgaokifmaoamaaKXEG
import Derived.Test.YtpgaokifmaoamaaKXEC
import Derived.Test.YtpgaokifmaoamaaKXWR
import Derived.Test.YtpgaokifmaoamaaKXNS9
import Derived.Test.YtpgaokifmaoamaaKXND
import Derived.WalkKit
import Derived.ProofKit
import Derived.RowKit3
import Derived.WalkSpells
import Derived.StillTactics
import Derived.Deep.QuietTactic
import Derived.BigQuiet
import Derived.Below
import Derived.Deep.OwnRows
import Derived.OwnWalk
import Derived.Laws.BitsAllLaws
import Derived.Laws.Slices
import Derived.Laws.Bits64b
import Derived.Laws.FloatArith
import Derived.Deep.RegionHeld3
import Derived.Deep.CutRange
import Derived.Deep.DeepCutAuto
namespace Go.Proofs.Ytpgaokifmaoamaa
open Go.RowKit

def H3c (w : World) (b : Nat) (v0 v1 v2 : Value) : Prop := w.cell? ⟨b, 0, none⟩ = some v0 ∧ w.cell? ⟨b, 1, none⟩ = some v1 ∧ w.cell? ⟨b, 2, none⟩ = some v2 ∧ w.frozen? ⟨b, 0, none⟩ = false ∧ w.frozen? ⟨b, 1, none⟩ = false ∧ w.frozen? ⟨b, 2, none⟩ = false
theorem H3c.keep {W w : World} {b : Nat} {v0 v1 v2 : Value} (h : H3c W b v0 v1 v2) (g : Kp W w) : H3c w b v0 v1 v2 := by
  obtain ⟨h0, h1, h2, h3, h4, h5⟩ := h
  exact ⟨kkeep g h0, kkeep g h1, kkeep g h2, (kfro g (cell_lt h0)).trans h3, (kfro g (cell_lt h0)).trans h4, (kfro g (cell_lt h0)).trans h5⟩
theorem H3c.new (w : World) (v0 v1 v2 : Value) (t : TypeId) : H3c (w.alloc (.cells #[v0, v1, v2] t)) w.heap.size v0 v1 v2 := by
  unfold H3c; simp [go_sem]
theorem H3c.lt {w : World} {b : Nat} {v0 v1 v2 : Value} (h : H3c w b v0 v1 v2) : b < w.heap.size := cell_lt h.1
set_option maxRecDepth 20000 in
set_option maxHeartbeats 1000000 in
theorem H3c.put {w : World} {b : Nat} {v0 v1 v2 : Value} (h : H3c w b v0 v1 v2) (u0 u1 u2 : Value) : H3c ((((w.setCell ⟨b, 0, none⟩ u0).setCell ⟨b, 1, none⟩ u1).setCell ⟨b, 2, none⟩ u2)) b u0 u1 u2 := by
  obtain ⟨h0, h1, h2, h3, h4, h5⟩ := h
  unfold H3c; simp [go_sem, h0, h1, h2, h3, h4, h5]
theorem H3c.far1 {w : World} {b : Nat} {v0 v1 v2 : Value} (h : H3c w b v0 v1 v2) (x : Addr) (hne : x.block ≠ b) (u : Value) : H3c (w.setCell x u) b v0 v1 v2 := by
  obtain ⟨h0, h1, h2, h3, h4, h5⟩ := h
  exact ⟨(World.cell?_setCell_far _ _ _ _ hne).trans h0, (World.cell?_setCell_far _ _ _ _ hne).trans h1, (World.cell?_setCell_far _ _ _ _ hne).trans h2, (World.frozen?_setCell _ _ _ _).trans h3, (World.frozen?_setCell _ _ _ _).trans h4, (World.frozen?_setCell _ _ _ _).trans h5⟩
theorem Fq.H2.n1 (w : World) (c : Array Value) (s : TypeId) (u v : Value) (t : TypeId) : Fq.H2 ((w.alloc (.cells c s)).alloc (.cells #[u, v] t)) (w.heap.size + 1) u v := by
  unfold Fq.H2; simp [go_sem]
theorem H3c.n2 (w : World) (c c2 : Array Value) (s s2 : TypeId) (v0 v1 v2 : Value) (t : TypeId) : H3c (((w.alloc (.cells c s)).alloc (.cells c2 s2)).alloc (.cells #[v0, v1, v2] t)) (w.heap.size + 2) v0 v1 v2 := by
  unfold H3c; simp [go_sem]
theorem H3c.n3 (w : World) (c c2 c3 : Array Value) (s s2 s3 : TypeId) (v0 v1 v2 : Value) (t : TypeId) : H3c ((((w.alloc (.cells c s)).alloc (.cells c2 s2)).alloc (.cells c3 s3)).alloc (.cells #[v0, v1, v2] t)) (w.heap.size + 3) v0 v1 v2 := by
  unfold H3c; simp [go_sem]
theorem Fq.H2.keepK {W w : World} {b : Nat} {u v : Value} (h : Fq.H2 W b u v) (g : Kp W w) : Fq.H2 w b u v := Fq.H2.keep h g
theorem Fq.H2.newD (w : World) (u v : Value) (t : TypeId) : Fq.H2 ((w.alloc (.cells #[u, v] t)).drew) w.heap.size u v := by
  unfold Fq.H2; simp [go_sem]
set_option linter.unusedVariables false
set_option maxRecDepth 20000 in
set_option maxHeartbeats 2000000 in
theorem twoZ1_ (X1 X2 Y1 Y2 : Int) (s3 : Bool) (p3 : Option Addr) (l3 c3 : Nat) (q3 : Option Addr) (k3 d3 : Nat) (s4 : Bool) (p4 : Option Addr) (l4 c4 : Nat) (q4 : Option Addr) (k4 d4 : Nat) (RWp : World → Prop) (hkr : ∀ W W' : World, Kp W W' → RWp W → RWp W') (ND1 : Nat) (hn1 : ∀ W : World, RWp W → Calls Try.prog 5 #[.slice q3 k3 d3] W fun e w' => ∃ (pn : Option Addr) (cn : Nat), e = .returned (.slice pn ND1 cn) ∧ Kp W w') (t1 : (ND1 : Int) = 0) (w : World) (hz0 : RWp w) : Calls Try.prog 3 #[.agg #[.int .u64 X1, .int .u64 X2], .agg #[.int .u64 Y1, .int .u64 Y2], .agg #[.bool s3, .slice p3 l3 c3, .slice q3 k3 d3], .agg #[.bool s4, .slice p4 l4 c4, .slice q4 k4 d4]] w fun e w' => e = .returned (.bool true) ∧ Kp w w' := by
  go_enter Try.func3, Try.ntmps3
  go_upto_region 3 with (first | (go_at_call 4; refine (awake9_ _).mono ?_; rintro e W ⟨rfl, g1⟩; have kW : Kp w W := Kp.trans (((((Kp.refl w).alloc _).alloc _).alloc _).alloc _) g1; have sx := Fq.H2.keep (Fq.H2.new w (.int .u64 X1) (.int .u64 X2) 24) (Kp.trans ((((Kp.refl _).alloc (.cells #[.int .u64 Y1, .int .u64 Y2] 24)).alloc (.cells #[.bool s3, .slice p3 l3 c3, .slice q3 k3 d3] 27)).alloc (.cells #[.bool s4, .slice p4 l4 c4, .slice q4 k4 d4] 27)) g1); have sy := Fq.H2.keep (Fq.H2.n1 w #[.int .u64 X1, .int .u64 X2] 24 (.int .u64 Y1) (.int .u64 Y2) 24) (Kp.trans (((Kp.refl _).alloc (.cells #[.bool s3, .slice p3 l3 c3, .slice q3 k3 d3] 27)).alloc (.cells #[.bool s4, .slice p4 l4 c4, .slice q4 k4 d4] 27)) g1); have sv := H3c.keep (H3c.n2 w #[.int .u64 X1, .int .u64 X2] #[.int .u64 Y1, .int .u64 Y2] 24 24 (.bool s3) (.slice p3 l3 c3) (.slice q3 k3 d3) 27) (Kp.trans ((Kp.refl _).alloc (.cells #[.bool s4, .slice p4 l4 c4, .slice q4 k4 d4] 27)) g1); have sz := H3c.keep (H3c.n3 w #[.int .u64 X1, .int .u64 X2] #[.int .u64 Y1, .int .u64 Y2] #[.bool s3, .slice p3 l3 c3, .slice q3 k3 d3] 24 24 27 (.bool s4) (.slice p4 l4 c4) (.slice q4 k4 d4) 27) g1; have hz := hkr _ _ kW hz0))
  generalize w.heap.size + 3 = bz at sz ⊢
  generalize w.heap.size + 2 = bv at sv ⊢
  generalize w.heap.size + 1 = by9 at sy ⊢
  generalize w.heap.size = bx at sx ⊢
  clear g1
  obtain ⟨x0, x1, x2, x3⟩ := id sx; obtain ⟨y0, y1, y2, y3⟩ := id sy; obtain ⟨v0, v1, v2, v3, v4, v5⟩ := id sv; obtain ⟨z0, z1, z2, z3, z4, z5⟩ := id sz
  go_wp2_with (first | (go_at_call_of 5 (Value.slice q3 k3 d3); refine (hn1 _ hz).mono ?_; rintro e wn ⟨pn, cn, rfl, gn⟩; replace sx := Fq.H2.keep sx gn; replace sy := Fq.H2.keep sy gn; replace sv := H3c.keep sv gn; replace sz := H3c.keep sz gn; replace hz := hkr _ _ gn hz; replace kW := Kp.trans kW gn; clear gn x0 x1 x2 x3 y0 y1 y2 y3 v0 v1 v2 v3 v4 v5 z0 z1 z2 z3 z4 z5; obtain ⟨x0, x1, x2, x3⟩ := id sx; obtain ⟨y0, y1, y2, y3⟩ := id sy; obtain ⟨v0, v1, v2, v3, v4, v5⟩ := id sv; obtain ⟨z0, z1, z2, z3, z4, z5⟩ := id sz))
  exact bodyPost_ret (v := .bool true) (by simp [results, Try.results3, go_sem]) rfl ⟨rfl, kW⟩
set_option maxRecDepth 20000 in
set_option maxHeartbeats 2000000 in
theorem twoZ2_ (X1 X2 Y1 Y2 : Int) (s3 : Bool) (p3 : Option Addr) (l3 c3 : Nat) (q3 : Option Addr) (k3 d3 : Nat) (s4 : Bool) (p4 : Option Addr) (l4 c4 : Nat) (q4 : Option Addr) (k4 d4 : Nat) (RWp : World → Prop) (hkr : ∀ W W' : World, Kp W W' → RWp W → RWp W') (ND1 : Nat) (hn1 : ∀ W : World, RWp W → Calls Try.prog 5 #[.slice q3 k3 d3] W fun e w' => ∃ (pn : Option Addr) (cn : Nat), e = .returned (.slice pn ND1 cn) ∧ Kp W w') (ND2 : Nat) (hn2 : ∀ W : World, RWp W → Calls Try.prog 5 #[.slice q4 k4 d4] W fun e w' => ∃ (pn : Option Addr) (cn : Nat), e = .returned (.slice pn ND2 cn) ∧ Kp W w') (t1 : ¬ ((ND1 : Int) = 0)) (t2 : (ND2 : Int) = 0) (w : World) (hz0 : RWp w) : Calls Try.prog 3 #[.agg #[.int .u64 X1, .int .u64 X2], .agg #[.int .u64 Y1, .int .u64 Y2], .agg #[.bool s3, .slice p3 l3 c3, .slice q3 k3 d3], .agg #[.bool s4, .slice p4 l4 c4, .slice q4 k4 d4]] w fun e w' => e = .returned (.bool true) ∧ Kp w w' := by
  go_enter Try.func3, Try.ntmps3
  go_upto_region 3 with (first | (go_at_call 4; refine (awake9_ _).mono ?_; rintro e W ⟨rfl, g1⟩; have kW : Kp w W := Kp.trans (((((Kp.refl w).alloc _).alloc _).alloc _).alloc _) g1; have sx := Fq.H2.keep (Fq.H2.new w (.int .u64 X1) (.int .u64 X2) 24) (Kp.trans ((((Kp.refl _).alloc (.cells #[.int .u64 Y1, .int .u64 Y2] 24)).alloc (.cells #[.bool s3, .slice p3 l3 c3, .slice q3 k3 d3] 27)).alloc (.cells #[.bool s4, .slice p4 l4 c4, .slice q4 k4 d4] 27)) g1); have sy := Fq.H2.keep (Fq.H2.n1 w #[.int .u64 X1, .int .u64 X2] 24 (.int .u64 Y1) (.int .u64 Y2) 24) (Kp.trans (((Kp.refl _).alloc (.cells #[.bool s3, .slice p3 l3 c3, .slice q3 k3 d3] 27)).alloc (.cells #[.bool s4, .slice p4 l4 c4, .slice q4 k4 d4] 27)) g1); have sv := H3c.keep (H3c.n2 w #[.int .u64 X1, .int .u64 X2] #[.int .u64 Y1, .int .u64 Y2] 24 24 (.bool s3) (.slice p3 l3 c3) (.slice q3 k3 d3) 27) (Kp.trans ((Kp.refl _).alloc (.cells #[.bool s4, .slice p4 l4 c4, .slice q4 k4 d4] 27)) g1); have sz := H3c.keep (H3c.n3 w #[.int .u64 X1, .int .u64 X2] #[.int .u64 Y1, .int .u64 Y2] #[.bool s3, .slice p3 l3 c3, .slice q3 k3 d3] 24 24 27 (.bool s4) (.slice p4 l4 c4) (.slice q4 k4 d4) 27) g1; have hz := hkr _ _ kW hz0))
  generalize w.heap.size + 3 = bz at sz ⊢
  generalize w.heap.size + 2 = bv at sv ⊢
  generalize w.heap.size + 1 = by9 at sy ⊢
  generalize w.heap.size = bx at sx ⊢
  clear g1
  obtain ⟨x0, x1, x2, x3⟩ := id sx; obtain ⟨y0, y1, y2, y3⟩ := id sy; obtain ⟨v0, v1, v2, v3, v4, v5⟩ := id sv; obtain ⟨z0, z1, z2, z3, z4, z5⟩ := id sz
  go_wp2_with (first | (go_at_call_of 5 (Value.slice q3 k3 d3); refine (hn1 _ hz).mono ?_; rintro e wn ⟨pn, cn, rfl, gn⟩; replace sx := Fq.H2.keep sx gn; replace sy := Fq.H2.keep sy gn; replace sv := H3c.keep sv gn; replace sz := H3c.keep sz gn; replace hz := hkr _ _ gn hz; replace kW := Kp.trans kW gn; clear gn x0 x1 x2 x3 y0 y1 y2 y3 v0 v1 v2 v3 v4 v5 z0 z1 z2 z3 z4 z5; obtain ⟨x0, x1, x2, x3⟩ := id sx; obtain ⟨y0, y1, y2, y3⟩ := id sy; obtain ⟨v0, v1, v2, v3, v4, v5⟩ := id sv; obtain ⟨z0, z1, z2, z3, z4, z5⟩ := id sz) | (go_at_call_of 5 (Value.slice q4 k4 d4); refine (hn2 _ hz).mono ?_; rintro e wn ⟨pn2, cn2, rfl, gn⟩; replace sx := Fq.H2.keep sx gn; replace sy := Fq.H2.keep sy gn; replace sv := H3c.keep sv gn; replace sz := H3c.keep sz gn; replace hz := hkr _ _ gn hz; replace kW := Kp.trans kW gn; clear gn x0 x1 x2 x3 y0 y1 y2 y3 v0 v1 v2 v3 v4 v5 z0 z1 z2 z3 z4 z5; obtain ⟨x0, x1, x2, x3⟩ := id sx; obtain ⟨y0, y1, y2, y3⟩ := id sy; obtain ⟨v0, v1, v2, v3, v4, v5⟩ := id sv; obtain ⟨z0, z1, z2, z3, z4, z5⟩ := id sz))
  exact bodyPost_ret (v := .bool true) (by simp [results, Try.results3, go_sem]) rfl ⟨rfl, kW⟩
set_option maxRecDepth 20000 in
set_option maxHeartbeats 2000000 in
theorem twoV1_ (X1 X2 Y1 Y2 : Int) (s3 : Bool) (p3 : Option Addr) (l3 c3 : Nat) (q3 : Option Addr) (k3 d3 : Nat) (s4 : Bool) (p4 : Option Addr) (l4 c4 : Nat) (q4 : Option Addr) (k4 d4 : Nat) (RWp : World → Prop) (hkr : ∀ W W' : World, Kp W W' → RWp W → RWp W') (ND1 : Nat) (hn1 : ∀ W : World, RWp W → Calls Try.prog 5 #[.slice q3 k3 d3] W fun e w' => ∃ (pn : Option Addr) (cn : Nat), e = .returned (.slice pn ND1 cn) ∧ Kp W w') (ND2 : Nat) (hn2 : ∀ W : World, RWp W → Calls Try.prog 5 #[.slice q4 k4 d4] W fun e w' => ∃ (pn : Option Addr) (cn : Nat), e = .returned (.slice pn ND2 cn) ∧ Kp W w') (t1 : ¬ ((ND1 : Int) = 0)) (t2 : ¬ ((ND2 : Int) = 0)) (f1 : ∀ W : World, RWp W → Calls Try.prog 6 #[.agg #[.int .u64 X1, .int .u64 X2], .agg #[.bool s3, .slice p3 l3 c3, .slice q3 k3 d3]] W fun e w' => e = .returned (.bool false) ∧ Kp W w') (w : World) (hz0 : RWp w) : Calls Try.prog 3 #[.agg #[.int .u64 X1, .int .u64 X2], .agg #[.int .u64 Y1, .int .u64 Y2], .agg #[.bool s3, .slice p3 l3 c3, .slice q3 k3 d3], .agg #[.bool s4, .slice p4 l4 c4, .slice q4 k4 d4]] w fun e w' => e = .returned (.bool true) ∧ Kp w w' := by
  go_enter Try.func3, Try.ntmps3
  go_upto_region 3 with (first | (go_at_call 4; refine (awake9_ _).mono ?_; rintro e W ⟨rfl, g1⟩; have kW : Kp w W := Kp.trans (((((Kp.refl w).alloc _).alloc _).alloc _).alloc _) g1; have sx := Fq.H2.keep (Fq.H2.new w (.int .u64 X1) (.int .u64 X2) 24) (Kp.trans ((((Kp.refl _).alloc (.cells #[.int .u64 Y1, .int .u64 Y2] 24)).alloc (.cells #[.bool s3, .slice p3 l3 c3, .slice q3 k3 d3] 27)).alloc (.cells #[.bool s4, .slice p4 l4 c4, .slice q4 k4 d4] 27)) g1); have sy := Fq.H2.keep (Fq.H2.n1 w #[.int .u64 X1, .int .u64 X2] 24 (.int .u64 Y1) (.int .u64 Y2) 24) (Kp.trans (((Kp.refl _).alloc (.cells #[.bool s3, .slice p3 l3 c3, .slice q3 k3 d3] 27)).alloc (.cells #[.bool s4, .slice p4 l4 c4, .slice q4 k4 d4] 27)) g1); have sv := H3c.keep (H3c.n2 w #[.int .u64 X1, .int .u64 X2] #[.int .u64 Y1, .int .u64 Y2] 24 24 (.bool s3) (.slice p3 l3 c3) (.slice q3 k3 d3) 27) (Kp.trans ((Kp.refl _).alloc (.cells #[.bool s4, .slice p4 l4 c4, .slice q4 k4 d4] 27)) g1); have sz := H3c.keep (H3c.n3 w #[.int .u64 X1, .int .u64 X2] #[.int .u64 Y1, .int .u64 Y2] #[.bool s3, .slice p3 l3 c3, .slice q3 k3 d3] 24 24 27 (.bool s4) (.slice p4 l4 c4) (.slice q4 k4 d4) 27) g1; have hz := hkr _ _ kW hz0))
  generalize w.heap.size + 3 = bz at sz ⊢
  generalize w.heap.size + 2 = bv at sv ⊢
  generalize w.heap.size + 1 = by9 at sy ⊢
  generalize w.heap.size = bx at sx ⊢
  clear g1
  obtain ⟨x0, x1, x2, x3⟩ := id sx; obtain ⟨y0, y1, y2, y3⟩ := id sy; obtain ⟨v0, v1, v2, v3, v4, v5⟩ := id sv; obtain ⟨z0, z1, z2, z3, z4, z5⟩ := id sz
  go_wp2_with (first | (go_at_call_of 5 (Value.slice q3 k3 d3); refine (hn1 _ hz).mono ?_; rintro e wn ⟨pn, cn, rfl, gn⟩; replace sx := Fq.H2.keep sx gn; replace sy := Fq.H2.keep sy gn; replace sv := H3c.keep sv gn; replace sz := H3c.keep sz gn; replace hz := hkr _ _ gn hz; replace kW := Kp.trans kW gn; clear gn x0 x1 x2 x3 y0 y1 y2 y3 v0 v1 v2 v3 v4 v5 z0 z1 z2 z3 z4 z5; obtain ⟨x0, x1, x2, x3⟩ := id sx; obtain ⟨y0, y1, y2, y3⟩ := id sy; obtain ⟨v0, v1, v2, v3, v4, v5⟩ := id sv; obtain ⟨z0, z1, z2, z3, z4, z5⟩ := id sz) | (go_at_call_of 5 (Value.slice q4 k4 d4); refine (hn2 _ hz).mono ?_; rintro e wn ⟨pn2, cn2, rfl, gn⟩; replace sx := Fq.H2.keep sx gn; replace sy := Fq.H2.keep sy gn; replace sv := H3c.keep sv gn; replace sz := H3c.keep sz gn; replace hz := hkr _ _ gn hz; replace kW := Kp.trans kW gn; clear gn x0 x1 x2 x3 y0 y1 y2 y3 v0 v1 v2 v3 v4 v5 z0 z1 z2 z3 z4 z5; obtain ⟨x0, x1, x2, x3⟩ := id sx; obtain ⟨y0, y1, y2, y3⟩ := id sy; obtain ⟨v0, v1, v2, v3, v4, v5⟩ := id sv; obtain ⟨z0, z1, z2, z3, z4, z5⟩ := id sz) | (go_at_call_of 6 (Value.agg #[.int .u64 X1, .int .u64 X2]); refine (f1 _ hz).mono ?_; rintro e wn ⟨rfl, gn⟩; replace sx := Fq.H2.keep sx gn; replace sy := Fq.H2.keep sy gn; replace sv := H3c.keep sv gn; replace sz := H3c.keep sz gn; replace hz := hkr _ _ gn hz; replace kW := Kp.trans kW gn; clear gn x0 x1 x2 x3 y0 y1 y2 y3 v0 v1 v2 v3 v4 v5 z0 z1 z2 z3 z4 z5; obtain ⟨x0, x1, x2, x3⟩ := id sx; obtain ⟨y0, y1, y2, y3⟩ := id sy; obtain ⟨v0, v1, v2, v3, v4, v5⟩ := id sv; obtain ⟨z0, z1, z2, z3, z4, z5⟩ := id sz))
  exact bodyPost_ret (v := .bool true) (by simp [results, Try.results3, go_sem]) rfl ⟨rfl, kW⟩
set_option maxRecDepth 20000 in
set_option maxHeartbeats 2000000 in
theorem twoV2_ (X1 X2 Y1 Y2 : Int) (s3 : Bool) (p3 : Option Addr) (l3 c3 : Nat) (q3 : Option Addr) (k3 d3 : Nat) (s4 : Bool) (p4 : Option Addr) (l4 c4 : Nat) (q4 : Option Addr) (k4 d4 : Nat) (RWp : World → Prop) (hkr : ∀ W W' : World, Kp W W' → RWp W → RWp W') (ND1 : Nat) (hn1 : ∀ W : World, RWp W → Calls Try.prog 5 #[.slice q3 k3 d3] W fun e w' => ∃ (pn : Option Addr) (cn : Nat), e = .returned (.slice pn ND1 cn) ∧ Kp W w') (ND2 : Nat) (hn2 : ∀ W : World, RWp W → Calls Try.prog 5 #[.slice q4 k4 d4] W fun e w' => ∃ (pn : Option Addr) (cn : Nat), e = .returned (.slice pn ND2 cn) ∧ Kp W w') (t1 : ¬ ((ND1 : Int) = 0)) (t2 : ¬ ((ND2 : Int) = 0)) (f1 : ∀ W : World, RWp W → Calls Try.prog 6 #[.agg #[.int .u64 X1, .int .u64 X2], .agg #[.bool s3, .slice p3 l3 c3, .slice q3 k3 d3]] W fun e w' => e = .returned (.bool true) ∧ Kp W w') (f2 : ∀ W : World, RWp W → Calls Try.prog 6 #[.agg #[.int .u64 Y1, .int .u64 Y2], .agg #[.bool s4, .slice p4 l4 c4, .slice q4 k4 d4]] W fun e w' => e = .returned (.bool false) ∧ Kp W w') (w : World) (hz0 : RWp w) : Calls Try.prog 3 #[.agg #[.int .u64 X1, .int .u64 X2], .agg #[.int .u64 Y1, .int .u64 Y2], .agg #[.bool s3, .slice p3 l3 c3, .slice q3 k3 d3], .agg #[.bool s4, .slice p4 l4 c4, .slice q4 k4 d4]] w fun e w' => e = .returned (.bool true) ∧ Kp w w' := by
  go_enter Try.func3, Try.ntmps3
  go_upto_region 3 with (first | (go_at_call 4; refine (awake9_ _).mono ?_; rintro e W ⟨rfl, g1⟩; have kW : Kp w W := Kp.trans (((((Kp.refl w).alloc _).alloc _).alloc _).alloc _) g1; have sx := Fq.H2.keep (Fq.H2.new w (.int .u64 X1) (.int .u64 X2) 24) (Kp.trans ((((Kp.refl _).alloc (.cells #[.int .u64 Y1, .int .u64 Y2] 24)).alloc (.cells #[.bool s3, .slice p3 l3 c3, .slice q3 k3 d3] 27)).alloc (.cells #[.bool s4, .slice p4 l4 c4, .slice q4 k4 d4] 27)) g1); have sy := Fq.H2.keep (Fq.H2.n1 w #[.int .u64 X1, .int .u64 X2] 24 (.int .u64 Y1) (.int .u64 Y2) 24) (Kp.trans (((Kp.refl _).alloc (.cells #[.bool s3, .slice p3 l3 c3, .slice q3 k3 d3] 27)).alloc (.cells #[.bool s4, .slice p4 l4 c4, .slice q4 k4 d4] 27)) g1); have sv := H3c.keep (H3c.n2 w #[.int .u64 X1, .int .u64 X2] #[.int .u64 Y1, .int .u64 Y2] 24 24 (.bool s3) (.slice p3 l3 c3) (.slice q3 k3 d3) 27) (Kp.trans ((Kp.refl _).alloc (.cells #[.bool s4, .slice p4 l4 c4, .slice q4 k4 d4] 27)) g1); have sz := H3c.keep (H3c.n3 w #[.int .u64 X1, .int .u64 X2] #[.int .u64 Y1, .int .u64 Y2] #[.bool s3, .slice p3 l3 c3, .slice q3 k3 d3] 24 24 27 (.bool s4) (.slice p4 l4 c4) (.slice q4 k4 d4) 27) g1; have hz := hkr _ _ kW hz0))
  generalize w.heap.size + 3 = bz at sz ⊢
  generalize w.heap.size + 2 = bv at sv ⊢
  generalize w.heap.size + 1 = by9 at sy ⊢
  generalize w.heap.size = bx at sx ⊢
  clear g1
  obtain ⟨x0, x1, x2, x3⟩ := id sx; obtain ⟨y0, y1, y2, y3⟩ := id sy; obtain ⟨v0, v1, v2, v3, v4, v5⟩ := id sv; obtain ⟨z0, z1, z2, z3, z4, z5⟩ := id sz
  go_wp2_with (first | (go_at_call_of 5 (Value.slice q3 k3 d3); refine (hn1 _ hz).mono ?_; rintro e wn ⟨pn, cn, rfl, gn⟩; replace sx := Fq.H2.keep sx gn; replace sy := Fq.H2.keep sy gn; replace sv := H3c.keep sv gn; replace sz := H3c.keep sz gn; replace hz := hkr _ _ gn hz; replace kW := Kp.trans kW gn; clear gn x0 x1 x2 x3 y0 y1 y2 y3 v0 v1 v2 v3 v4 v5 z0 z1 z2 z3 z4 z5; obtain ⟨x0, x1, x2, x3⟩ := id sx; obtain ⟨y0, y1, y2, y3⟩ := id sy; obtain ⟨v0, v1, v2, v3, v4, v5⟩ := id sv; obtain ⟨z0, z1, z2, z3, z4, z5⟩ := id sz) | (go_at_call_of 5 (Value.slice q4 k4 d4); refine (hn2 _ hz).mono ?_; rintro e wn ⟨pn2, cn2, rfl, gn⟩; replace sx := Fq.H2.keep sx gn; replace sy := Fq.H2.keep sy gn; replace sv := H3c.keep sv gn; replace sz := H3c.keep sz gn; replace hz := hkr _ _ gn hz; replace kW := Kp.trans kW gn; clear gn x0 x1 x2 x3 y0 y1 y2 y3 v0 v1 v2 v3 v4 v5 z0 z1 z2 z3 z4 z5; obtain ⟨x0, x1, x2, x3⟩ := id sx; obtain ⟨y0, y1, y2, y3⟩ := id sy; obtain ⟨v0, v1, v2, v3, v4, v5⟩ := id sv; obtain ⟨z0, z1, z2, z3, z4, z5⟩ := id sz) | (go_at_call_of 6 (Value.agg #[.int .u64 X1, .int .u64 X2]); refine (f1 _ hz).mono ?_; rintro e wn ⟨rfl, gn⟩; replace sx := Fq.H2.keep sx gn; replace sy := Fq.H2.keep sy gn; replace sv := H3c.keep sv gn; replace sz := H3c.keep sz gn; replace hz := hkr _ _ gn hz; replace kW := Kp.trans kW gn; clear gn x0 x1 x2 x3 y0 y1 y2 y3 v0 v1 v2 v3 v4 v5 z0 z1 z2 z3 z4 z5; obtain ⟨x0, x1, x2, x3⟩ := id sx; obtain ⟨y0, y1, y2, y3⟩ := id sy; obtain ⟨v0, v1, v2, v3, v4, v5⟩ := id sv; obtain ⟨z0, z1, z2, z3, z4, z5⟩ := id sz) | (go_at_call_of 6 (Value.agg #[.int .u64 Y1, .int .u64 Y2]); refine (f2 _ hz).mono ?_; rintro e wn ⟨rfl, gn⟩; replace sx := Fq.H2.keep sx gn; replace sy := Fq.H2.keep sy gn; replace sv := H3c.keep sv gn; replace sz := H3c.keep sz gn; replace hz := hkr _ _ gn hz; replace kW := Kp.trans kW gn; clear gn x0 x1 x2 x3 y0 y1 y2 y3 v0 v1 v2 v3 v4 v5 z0 z1 z2 z3 z4 z5; obtain ⟨x0, x1, x2, x3⟩ := id sx; obtain ⟨y0, y1, y2, y3⟩ := id sy; obtain ⟨v0, v1, v2, v3, v4, v5⟩ := id sv; obtain ⟨z0, z1, z2, z3, z4, z5⟩ := id sz))
  exact bodyPost_ret (v := .bool true) (by simp [results, Try.results3, go_sem]) rfl ⟨rfl, kW⟩

set_option linter.unusedVariables false
theorem cross_le (P y3 y4 X3 X4 a b : Int) (hP : 0 < P) (p3 : 0 < y3) (p4 : 0 < y4) (h1 : X3 * P ≤ a * y3) (h2 : b * y4 ≤ X4 * P) (h : a ≤ b) : X3 * y4 ≤ X4 * y3 := by
  have e1 : X3 * P * y4 ≤ a * y3 * y4 := Int.mul_le_mul_of_nonneg_right h1 (by omega)
  have e2 : b * y4 * y3 ≤ X4 * P * y3 := Int.mul_le_mul_of_nonneg_right h2 (by omega)
  have e3 : a * (y3 * y4) ≤ b * (y3 * y4) := Int.mul_le_mul_of_nonneg_right h (Int.le_of_lt (Int.mul_pos p3 p4))
  have e4 : a * y3 * y4 = a * (y3 * y4) := Int.mul_assoc _ _ _
  have e5 : b * y4 * y3 = b * (y3 * y4) := by rw [Int.mul_assoc, Int.mul_comm y4 y3]
  have e6 : X3 * P * y4 = X3 * y4 * P := Int.mul_right_comm _ _ _
  have e7 : X4 * P * y3 = X4 * y3 * P := Int.mul_right_comm _ _ _
  have e8 : X3 * y4 * P ≤ X4 * y3 * P := by rw [← e6, ← e7]; omega
  exact Int.le_of_mul_le_mul_right e8 hP
theorem cross_lt (P y3 y4 X3 X4 a b : Int) (hP : 0 < P) (p3 : 0 < y3) (p4 : 0 < y4) (h1 : X3 * P ≤ a * y3) (h2 : b * y4 ≤ X4 * P) (h : a < b) : X3 * y4 < X4 * y3 := by
  have e1 : X3 * P * y4 ≤ a * y3 * y4 := Int.mul_le_mul_of_nonneg_right h1 (by omega)
  have e2 : b * y4 * y3 ≤ X4 * P * y3 := Int.mul_le_mul_of_nonneg_right h2 (by omega)
  have e3 : a * (y3 * y4) < b * (y3 * y4) := Int.mul_lt_mul_of_pos_right h (Int.mul_pos p3 p4)
  have e4 : a * y3 * y4 = a * (y3 * y4) := Int.mul_assoc _ _ _
  have e5 : b * y4 * y3 = b * (y3 * y4) := by rw [Int.mul_assoc, Int.mul_comm y4 y3]
  have e6 : X3 * P * y4 = X3 * y4 * P := Int.mul_right_comm _ _ _
  have e7 : X4 * P * y3 = X4 * y3 * P := Int.mul_right_comm _ _ _
  have e8 : X3 * y4 * P < X4 * y3 * P := by rw [← e6, ← e7]; omega
  exact Int.lt_of_mul_lt_mul_right e8 (by omega)
theorem two_prec (K : Nat) (s3 s4 : Bool) (x3 y3 x4 y4 : Nat) (z3 : y3 ≠ 0) (z4 : y4 ≠ 0) (H L : Int) (hH : BdZ H) (hL : BdZ L) (h1 : hiC K s3 x3 y3 H ≤ 0) (h2 : loC K s4 x4 y4 L ≤ 0) : (H ≤ L → cmI (rvI s3 x3 * y4) (rvI s4 x4 * y3) ≤ 0) ∧ (H < L → cmI (rvI s3 x3 * y4) (rvI s4 x4 * y3) = -1) := by
  rw [hiC_le] at h1
  rw [loC_le] at h2
  have pk : (0 : Int) < ((2 ^ K : Nat) : Int) := by have := Nat.two_pow_pos K; omega
  unfold BdZ at hH hL
  have key : H ≤ L → (rvI s3 x3 * ((2 ^ K : Nat) : Int) ≤ vI H * y3 ∧ vI L * y4 ≤ rvI s4 x4 * ((2 ^ K : Nat) : Int)) := by
    intro h
    rcases h1 with h1 | h1
    · rcases h2 with h2 | h2 <;> omega
    · rcases h2 with h2 | h2
      · omega
      · exact ⟨h1.2, h2.2⟩
  constructor
  · intro h
    obtain ⟨k1, k2⟩ := key h
    rw [cmI_le0]
    refine cross_le _ _ _ _ _ (vI H) (vI L) pk (by omega) (by omega) k1 k2 ?_
    by_cases c : vI L < vI H
    · have := (vI_lt L H).1 c; omega
    · omega
  · intro h
    obtain ⟨k1, k2⟩ := key (by omega)
    exact cmI_lt _ _ (cross_lt _ _ _ _ _ (vI H) (vI L) pk (by omega) (by omega) k1 k2 ((vI_lt H L).2 h))
theorem same_lo (K : Nat) (s3 s4 : Bool) (x3 y3 x4 y4 : Nat) (z3 : y3 ≠ 0) (z4 : y4 ≠ 0) (e : rvI s3 x3 * (y4 : Int) = rvI s4 x4 * y3) (z : Int) : (loC K s4 x4 y4 z ≤ 0 → loC K s3 x3 y3 z ≤ 0) ∧ (hiC K s4 x4 y4 z ≤ 0 → hiC K s3 x3 y3 z ≤ 0) := by
  have pk : (0 : Int) < ((2 ^ K : Nat) : Int) := by have := Nat.two_pow_pos K; omega
  rw [loC_le, loC_le, hiC_le, hiC_le]
  generalize ((2 ^ K : Nat) : Int) = P at *
  have p3 : (0 : Int) < (y3 : Int) := by omega
  have p4 : (0 : Int) < (y4 : Int) := by omega
  have e2 : rvI s3 x3 * P * y4 = rvI s4 x4 * P * y3 := by rw [Int.mul_right_comm, e, Int.mul_right_comm]
  constructor
  · rintro (h | ⟨h1, h2⟩)
    · exact Or.inl h
    · refine Or.inr ⟨h1, ?_⟩
      have e8 : vI z * y3 * y4 ≤ rvI s3 x3 * P * y4 := by
        rw [e2, Int.mul_right_comm]
        exact Int.mul_le_mul_of_nonneg_right h2 (by omega)
      exact Int.le_of_mul_le_mul_right e8 p4
  · rintro (h | ⟨h1, h2⟩)
    · exact Or.inl h
    · refine Or.inr ⟨h1, ?_⟩
      have e8 : rvI s3 x3 * P * y4 ≤ vI z * y3 * y4 := by
        rw [e2, Int.mul_right_comm (vI z)]
        exact Int.mul_le_mul_of_nonneg_right h2 (by omega)
      exact Int.le_of_mul_le_mul_right e8 p4
theorem cmI_three (x y : Int) : cmI x y = -1 ∨ (cmI x y = 0 ∧ x = y) ∨ cmI x y = 1 := by
  unfold cmI
  by_cases c1 : x < y
  · rw [if_pos c1]; exact Or.inl rfl
  · rw [if_neg c1]
    by_cases c2 : y < x
    · rw [if_pos c2]; exact Or.inr (Or.inr rfl)
    · rw [if_neg c2]; exact Or.inr (Or.inl ⟨rfl, by omega⟩)
end Go.Proofs.Ytpgaokifmaoamaa
