import Derived.Test.YtpgaokifmaoamaaProg
import Derived.Test.YtpgaokifmaoamaaKXA0
import Derived.Test.YtpgaokifmaoamaaKXQF
import Derived.Test.YtpgaokifmaoamaaKQA
import Derived.Test.YtpgaokifmaoamaaKXQU
import Derived.Test.YtpgaokifmaoamaaKXEA
import Derived.Test.YtpgaokifmaoamaaKXNR
import Derived.Test.YtpgaokifmaoamaaKXNS9
import Derived.Test.YtpgaokifmaoamaaKXND
import Derived.Test.YtpgaokifmaoamaaKXM
import Derived.Test.YtpgaokifmaoamaaKXY
import Derived.Test.YtpgaokifmaoamaaKXEE
import Derived.Test.YtpgaokifmaoamaaKMR7Q
import Derived.Test.YtpgaokifmaoamaaKXMR
import Derived.Test.YtpgaokifmaoamaaKXM3
import Derived.Test.YtpgaokifmaoamaaKXO
import Derived.Test.YtpgaokifmaoamaaKXO3
import Derived.Test.YtpgaokifmaoamaaKXT
import Derived.Test.YtpgaokifmaoamaaKXLB
import Derived.Test.YtpgaokifmaoamaaKRX
import Derived.Test.YtpgaokifmaoamaaKXRL
import Derived.Test.YtpgaokifmaoamaaKXCO
import Derived.Test.YtpgaokifmaoamaaKLN
import Derived.Test.YtpgaokifmaoamaaKXRN
import Derived.Test.YtpgaokifmaoamaaKW4
import Derived.Test.YtpgaokifmaoamaaKBY
import Derived.Test.YtpgaokifmaoamaaKBW
import Derived.Test.YtpgaokifmaoamaaKXTZ
import Derived.Test.YtpgaokifmaoamaaKXG1
import Derived.Test.YtpgaokifmaoamaaKNSm
import Derived.Test.YtpgaokifmaoamaaKXH2Q
import Derived.Test.YtpgaokifmaoamaaKXG4
import Derived.Test.YtpgaokifmaoamaaKEKF
import Derived.Test.YtpgaokifmaoamaaKXET
import Derived.Test.YtpgaokifmaoamaaKXEG
import Derived.Test.YtpgaokifmaoamaaKXEC
import Derived.Test.YtpgaokifmaoamaaKXWR
import Derived.Test.YtpgaokifmaoamaaKXWS
import Derived.WalkKit
import Derived.ProofKit
import Derived.RowKit3
import Derived.WalkSpells
import Derived.StillTactics
import Derived.Deep.QuietTactic
import Derived.BigQuiet
import Derived.Below
import Derived.Deep.OwnRows
import Derived.OwnWalk
import Derived.Laws.BitsAllLaws
import Derived.Laws.Slices
import Derived.Laws.Bits64b
import Derived.Laws.FloatArith
import Derived.Deep.RegionHeld3
import Derived.Deep.CutRange
import Derived.Deep.DeepCutAuto
namespace Go.Proofs.Ytpgaokifmaoamaa
open Go.RowKit
set_option linter.unusedVariables false
set_option maxRecDepth 20000 in
set_option maxHeartbeats 4000000 in
theorem twoT_ (X1 X2 Y1 Y2 : Int) (s3 : Bool) (p3 : Option Addr) (l3 c3 : Nat) (q3 : Option Addr) (k3 d3 : Nat) (s4 : Bool) (p4 : Option Addr) (l4 c4 : Nat) (q4 : Option Addr) (k4 d4 : Nat) (RWp : World → Prop) (hkr : ∀ W W' : World, Kp W W' → RWp W → RWp W') (A1 A2 B1 B2 : Nat) (CC : Int) (V3 V4 pr sp dj su eq it : Bool) (ND1 : Nat) (hn1 : ∀ W : World, RWp W → Calls Try.prog 5 #[.slice q3 k3 d3] W fun e w' => ∃ (pn : Option Addr) (cn : Nat), e = .returned (.slice pn ND1 cn) ∧ Kp W w') (ND2 : Nat) (hn2 : ∀ W : World, RWp W → Calls Try.prog 5 #[.slice q4 k4 d4] W fun e w' => ∃ (pn : Option Addr) (cn : Nat), e = .returned (.slice pn ND2 cn) ∧ Kp W w') (t1 : ¬ ((ND1 : Int) = 0)) (t2 : ¬ ((ND2 : Int) = 0)) (f1 : ∀ W : World, RWp W → Calls Try.prog 6 #[.agg #[.int .u64 X1, .int .u64 X2], .agg #[.bool s3, .slice p3 l3 c3, .slice q3 k3 d3]] W fun e w' => e = .returned (.bool true) ∧ Kp W w') (f2 : ∀ W : World, RWp W → Calls Try.prog 6 #[.agg #[.int .u64 Y1, .int .u64 Y2], .agg #[.bool s4, .slice p4 l4 c4, .slice q4 k4 d4]] W fun e w' => e = .returned (.bool true) ∧ Kp W w') (f3 : ∀ W : World, RWp W → Calls Try.prog 6 #[.agg #[.int .u64 Y1, .int .u64 Y2], .agg #[.bool s3, .slice p3 l3 c3, .slice q3 k3 d3]] W fun e w' => e = .returned (.bool V3) ∧ Kp W w') (f4 : ∀ W : World, RWp W → Calls Try.prog 6 #[.agg #[.int .u64 X1, .int .u64 X2], .agg #[.bool s4, .slice p4 l4 c4, .slice q4 k4 d4]] W fun e w' => e = .returned (.bool V4) ∧ Kp W w') (hC : ∀ W : World, RWp W → Calls Try.prog 7 #[.agg #[.bool s3, .slice p3 l3 c3, .slice q3 k3 d3], .agg #[.bool s4, .slice p4 l4 c4, .slice q4 k4 d4]] W fun e w' => e = .returned (.int .i64 CC) ∧ Kp W w') (hin1 : ∀ w : World, Calls Try.prog 8 #[.agg #[.int .u64 X1, .int .u64 X2]] w fun e w' => e = .returned (.agg #[.float .f64 A1, .float .f64 A2]) ∧ Kp w w') (hin2 : ∀ w : World, Calls Try.prog 8 #[.agg #[.int .u64 Y1, .int .u64 Y2]] w fun e w' => e = .returned (.agg #[.float .f64 B1, .float .f64 B2]) ∧ Kp w w') (hpr : ∀ w : World, Calls Try.prog 9 #[.agg #[.float .f64 A1, .float .f64 A2], .agg #[.float .f64 B1, .float .f64 B2]] w fun e w' => e = .returned (.bool pr) ∧ Kp w w') (hsp : ∀ w : World, Calls Try.prog 10 #[.agg #[.float .f64 A1, .float .f64 A2], .agg #[.float .f64 B1, .float .f64 B2]] w fun e w' => e = .returned (.bool sp) ∧ Kp w w') (hdj : ∀ w : World, Calls Try.prog 11 #[.agg #[.float .f64 A1, .float .f64 A2], .agg #[.float .f64 B1, .float .f64 B2]] w fun e w' => e = .returned (.bool dj) ∧ Kp w w') (hsu : ∀ w : World, Calls Try.prog 12 #[.agg #[.float .f64 A1, .float .f64 A2], .agg #[.float .f64 B1, .float .f64 B2]] w fun e w' => e = .returned (.bool su) ∧ Kp w w') (heq : ∀ w : World, Calls Try.prog 13 #[.agg #[.float .f64 A1, .float .f64 A2], .agg #[.float .f64 B1, .float .f64 B2]] w fun e w' => e = .returned (.bool eq) ∧ Kp w w') (hit : ∀ w : World, Calls Try.prog 14 #[.agg #[.float .f64 A1, .float .f64 A2], .agg #[.float .f64 B1, .float .f64 B2]] w fun e w' => e = .returned (.bool it) ∧ Kp w w') (g8 : CC = -1 ∨ (CC = 0 ∧ sp = false ∧ dj = false) ∨ (CC = 1 ∧ pr = false ∧ sp = false)) (g10 : (su = false ∧ eq = false ∧ it = false) ∨ V3 = true) (g12 : eq = false ∨ V4 = true) (w : World) (hz0 : RWp w) : Calls Try.prog 3 #[.agg #[.int .u64 X1, .int .u64 X2], .agg #[.int .u64 Y1, .int .u64 Y2], .agg #[.bool s3, .slice p3 l3 c3, .slice q3 k3 d3], .agg #[.bool s4, .slice p4 l4 c4, .slice q4 k4 d4]] w fun e w' => e = .returned (.bool true) ∧ Kp w w' := by
  have HG : Hid ((CC = -1 ∨ (CC = 0 ∧ sp = false ∧ dj = false) ∨ (CC = 1 ∧ pr = false ∧ sp = false)) ∧ ((su = false ∧ eq = false ∧ it = false) ∨ V3 = true) ∧ (eq = false ∨ V4 = true)) := ⟨g8, g10, g12⟩
  clear g8 g10 g12
  have t1b : ((ND1 : Int) == 0) = false := by simpa using t1
  have t2b : ((ND2 : Int) == 0) = false := by simpa using t2
  have t1n : ¬ ND1 = 0 := by omega
  have t2n : ¬ ND2 = 0 := by omega
  go_enter Try.func3, Try.ntmps3
  go_upto_region 3 with (first | (go_at_call 4; refine (awake9_ _).mono ?_; rintro e W ⟨rfl, g1⟩; have kW : Kp w W := Kp.trans (((((Kp.refl w).alloc _).alloc _).alloc _).alloc _) g1; have sx := Fq.H2.keep (Fq.H2.new w (.int .u64 X1) (.int .u64 X2) 24) (Kp.trans ((((Kp.refl _).alloc (.cells #[.int .u64 Y1, .int .u64 Y2] 24)).alloc (.cells #[.bool s3, .slice p3 l3 c3, .slice q3 k3 d3] 27)).alloc (.cells #[.bool s4, .slice p4 l4 c4, .slice q4 k4 d4] 27)) g1); have sy := Fq.H2.keep (Fq.H2.n1 w #[.int .u64 X1, .int .u64 X2] 24 (.int .u64 Y1) (.int .u64 Y2) 24) (Kp.trans (((Kp.refl _).alloc (.cells #[.bool s3, .slice p3 l3 c3, .slice q3 k3 d3] 27)).alloc (.cells #[.bool s4, .slice p4 l4 c4, .slice q4 k4 d4] 27)) g1); have sv := H3c.keep (H3c.n2 w #[.int .u64 X1, .int .u64 X2] #[.int .u64 Y1, .int .u64 Y2] 24 24 (.bool s3) (.slice p3 l3 c3) (.slice q3 k3 d3) 27) (Kp.trans ((Kp.refl _).alloc (.cells #[.bool s4, .slice p4 l4 c4, .slice q4 k4 d4] 27)) g1); have sz := H3c.keep (H3c.n3 w #[.int .u64 X1, .int .u64 X2] #[.int .u64 Y1, .int .u64 Y2] #[.bool s3, .slice p3 l3 c3, .slice q3 k3 d3] 24 24 27 (.bool s4) (.slice p4 l4 c4) (.slice q4 k4 d4) 27) g1; have hz := hkr _ _ kW hz0))
  generalize w.heap.size + 3 = bz at sz ⊢
  generalize w.heap.size + 2 = bv at sv ⊢
  generalize w.heap.size + 1 = by9 at sy ⊢
  generalize w.heap.size = bx at sx ⊢
  clear g1
  obtain ⟨x0, x1, x2, x3⟩ := id sx; obtain ⟨y0, y1, y2, y3⟩ := id sy; obtain ⟨v0, v1, v2, v3, v4, v5⟩ := id sv; obtain ⟨z0, z1, z2, z3, z4, z5⟩ := id sz
  go_upto_region 8 with (first | (go_at_call_of 5 (Value.slice q3 k3 d3); refine (hn1 _ hz).mono ?_; rintro e wn ⟨pn, cn, rfl, gn⟩; replace sx := Fq.H2.keep sx gn; replace sy := Fq.H2.keep sy gn; replace sv := H3c.keep sv gn; replace sz := H3c.keep sz gn; replace hz := hkr _ _ gn hz; replace kW := Kp.trans kW gn; clear gn x0 x1 x2 x3 y0 y1 y2 y3 v0 v1 v2 v3 v4 v5 z0 z1 z2 z3 z4 z5; obtain ⟨x0, x1, x2, x3⟩ := id sx; obtain ⟨y0, y1, y2, y3⟩ := id sy; obtain ⟨v0, v1, v2, v3, v4, v5⟩ := id sv; obtain ⟨z0, z1, z2, z3, z4, z5⟩ := id sz) | (go_at_call_of 5 (Value.slice q4 k4 d4); refine (hn2 _ hz).mono ?_; rintro e wn ⟨pn2, cn2, rfl, gn⟩; replace sx := Fq.H2.keep sx gn; replace sy := Fq.H2.keep sy gn; replace sv := H3c.keep sv gn; replace sz := H3c.keep sz gn; replace hz := hkr _ _ gn hz; replace kW := Kp.trans kW gn; clear gn x0 x1 x2 x3 y0 y1 y2 y3 v0 v1 v2 v3 v4 v5 z0 z1 z2 z3 z4 z5; obtain ⟨x0, x1, x2, x3⟩ := id sx; obtain ⟨y0, y1, y2, y3⟩ := id sy; obtain ⟨v0, v1, v2, v3, v4, v5⟩ := id sv; obtain ⟨z0, z1, z2, z3, z4, z5⟩ := id sz) | (go_at_call_of 6 (Value.agg #[.int .u64 X1, .int .u64 X2]); refine (f1 _ hz).mono ?_; rintro e wn ⟨rfl, gn⟩; replace sx := Fq.H2.keep sx gn; replace sy := Fq.H2.keep sy gn; replace sv := H3c.keep sv gn; replace sz := H3c.keep sz gn; replace hz := hkr _ _ gn hz; replace kW := Kp.trans kW gn; clear gn x0 x1 x2 x3 y0 y1 y2 y3 v0 v1 v2 v3 v4 v5 z0 z1 z2 z3 z4 z5; obtain ⟨x0, x1, x2, x3⟩ := id sx; obtain ⟨y0, y1, y2, y3⟩ := id sy; obtain ⟨v0, v1, v2, v3, v4, v5⟩ := id sv; obtain ⟨z0, z1, z2, z3, z4, z5⟩ := id sz) | (go_at_call_of 6 (Value.agg #[.int .u64 Y1, .int .u64 Y2]); refine (f2 _ hz).mono ?_; rintro e wn ⟨rfl, gn⟩; replace sx := Fq.H2.keep sx gn; replace sy := Fq.H2.keep sy gn; replace sv := H3c.keep sv gn; replace sz := H3c.keep sz gn; replace hz := hkr _ _ gn hz; replace kW := Kp.trans kW gn; clear gn x0 x1 x2 x3 y0 y1 y2 y3 v0 v1 v2 v3 v4 v5 z0 z1 z2 z3 z4 z5; obtain ⟨x0, x1, x2, x3⟩ := id sx; obtain ⟨y0, y1, y2, y3⟩ := id sy; obtain ⟨v0, v1, v2, v3, v4, v5⟩ := id sv; obtain ⟨z0, z1, z2, z3, z4, z5⟩ := id sz) | (go_at_call 7; refine (hC _ hz).mono ?_; rintro e wn ⟨rfl, gn⟩; replace sx := Fq.H2.keep sx gn; replace sy := Fq.H2.keep sy gn; replace sv := H3c.keep sv gn; replace sz := H3c.keep sz gn; replace hz := hkr _ _ gn hz; replace kW := Kp.trans kW gn; clear gn x0 x1 x2 x3 y0 y1 y2 y3 v0 v1 v2 v3 v4 v5 z0 z1 z2 z3 z4 z5; obtain ⟨x0, x1, x2, x3⟩ := id sx; obtain ⟨y0, y1, y2, y3⟩ := id sy; obtain ⟨v0, v1, v2, v3, v4, v5⟩ := id sv; obtain ⟨z0, z1, z2, z3, z4, z5⟩ := id sz) | (go_at_call_of 8 (Value.agg #[.int .u64 X1, .int .u64 X2]); refine (hin1 _).mono ?_; rintro e wa ⟨rfl, ga⟩; have ga2 := Kp.trans ga ((Kp.refl _).alloc (.cells #[.float .f64 A1, .float .f64 A2] 34)); replace sx := Fq.H2.keep sx ga2; replace sy := Fq.H2.keep sy ga2; replace sv := H3c.keep sv ga2; replace sz := H3c.keep sz ga2; replace hz := hkr _ _ ga2 hz; replace kW := Kp.trans kW ga2; have qa := Fq.H2.new wa (.float .f64 A1) (.float .f64 A2) 34; clear x0 x1 x2 x3 y0 y1 y2 y3 v0 v1 v2 v3 v4 v5 z0 z1 z2 z3 z4 z5; obtain ⟨x0, x1, x2, x3⟩ := id sx; obtain ⟨y0, y1, y2, y3⟩ := id sy; obtain ⟨v0, v1, v2, v3, v4, v5⟩ := id sv; obtain ⟨z0, z1, z2, z3, z4, z5⟩ := id sz) | (go_at_call_of 8 (Value.agg #[.int .u64 Y1, .int .u64 Y2]); refine (hin2 _).mono ?_; rintro e wb ⟨rfl, gb⟩; have gb2 := Kp.trans gb ((Kp.refl _).alloc (.cells #[.float .f64 B1, .float .f64 B2] 34)); replace sx := Fq.H2.keep sx gb2; replace sy := Fq.H2.keep sy gb2; replace sv := H3c.keep sv gb2; replace sz := H3c.keep sz gb2; replace hz := hkr _ _ gb2 hz; replace kW := Kp.trans kW gb2; replace qa := Fq.H2.keep qa gb2; have qb := Fq.H2.new wb (.float .f64 B1) (.float .f64 B2) 34; clear x0 x1 x2 x3 y0 y1 y2 y3 v0 v1 v2 v3 v4 v5 z0 z1 z2 z3 z4 z5; obtain ⟨x0, x1, x2, x3⟩ := id sx; obtain ⟨y0, y1, y2, y3⟩ := id sy; obtain ⟨v0, v1, v2, v3, v4, v5⟩ := id sv; obtain ⟨z0, z1, z2, z3, z4, z5⟩ := id sz))
  generalize wb.alloc (.cells #[.float .f64 B1, .float .f64 B2] 34) = W at sx sy sv sz hz kW qa qb x0 x1 x2 x3 y0 y1 y2 y3 v0 v1 v2 v3 v4 v5 z0 z1 z2 z3 z4 z5 ⊢
  generalize wb.heap.size = gb9 at qb ⊢
  generalize wa.heap.size = ga9 at qa ⊢
  clear x0 x1 x2 x3 y0 y1 y2 y3 v0 v1 v2 v3 v4 v5 z0 z1 z2 z3 z4 z5
  go_cut [69] (fun s69 wx => s69 = .bool false ∧ Kp W wx)
  case first =>
    obtain ⟨g8, -, -⟩ := HG.out
    clear HG
    have gq : Kp W W := Kp.refl W
    obtain ⟨x0, x1, x2, x3⟩ := id sx; obtain ⟨y0, y1, y2, y3⟩ := id sy; obtain ⟨v0, v1, v2, v3, v4, v5⟩ := id sv; obtain ⟨z0, z1, z2, z3, z4, z5⟩ := id sz; obtain ⟨a0, a1, a2, a3⟩ := id qa; obtain ⟨b0, b1, b2, b3⟩ := id qb
    rcases g8 with rfl | ⟨rfl, rfl, rfl⟩ | ⟨rfl, rfl, rfl⟩
    · cases pr <;> cases sp <;> cases dj
      all_goals (
        go_wp2_with (first | (go_at_call 9; refine (hpr _).mono ?_; rintro e wn ⟨rfl, gn⟩; replace gq := Kp.trans gq gn; replace sx := Fq.H2.keep sx gn; replace sy := Fq.H2.keep sy gn; replace sv := H3c.keep sv gn; replace sz := H3c.keep sz gn; replace hz := hkr _ _ gn hz; replace qa := Fq.H2.keep qa gn; replace qb := Fq.H2.keep qb gn; clear gn a0 a1 a2 a3 b0 b1 b2 b3 x0 x1 x2 x3 y0 y1 y2 y3 v0 v1 v2 v3 v4 v5 z0 z1 z2 z3 z4 z5; obtain ⟨x0, x1, x2, x3⟩ := id sx; obtain ⟨y0, y1, y2, y3⟩ := id sy; obtain ⟨v0, v1, v2, v3, v4, v5⟩ := id sv; obtain ⟨z0, z1, z2, z3, z4, z5⟩ := id sz; obtain ⟨a0, a1, a2, a3⟩ := id qa; obtain ⟨b0, b1, b2, b3⟩ := id qb) | (go_at_call 10; refine (hsp _).mono ?_; rintro e wn ⟨rfl, gn⟩; replace gq := Kp.trans gq gn; replace sx := Fq.H2.keep sx gn; replace sy := Fq.H2.keep sy gn; replace sv := H3c.keep sv gn; replace sz := H3c.keep sz gn; replace hz := hkr _ _ gn hz; replace qa := Fq.H2.keep qa gn; replace qb := Fq.H2.keep qb gn; clear gn a0 a1 a2 a3 b0 b1 b2 b3 x0 x1 x2 x3 y0 y1 y2 y3 v0 v1 v2 v3 v4 v5 z0 z1 z2 z3 z4 z5; obtain ⟨x0, x1, x2, x3⟩ := id sx; obtain ⟨y0, y1, y2, y3⟩ := id sy; obtain ⟨v0, v1, v2, v3, v4, v5⟩ := id sv; obtain ⟨z0, z1, z2, z3, z4, z5⟩ := id sz; obtain ⟨a0, a1, a2, a3⟩ := id qa; obtain ⟨b0, b1, b2, b3⟩ := id qb) | (go_at_call 11; refine (hdj _).mono ?_; rintro e wn ⟨rfl, gn⟩; replace gq := Kp.trans gq gn; replace sx := Fq.H2.keep sx gn; replace sy := Fq.H2.keep sy gn; replace sv := H3c.keep sv gn; replace sz := H3c.keep sz gn; replace hz := hkr _ _ gn hz; replace qa := Fq.H2.keep qa gn; replace qb := Fq.H2.keep qb gn; clear gn a0 a1 a2 a3 b0 b1 b2 b3 x0 x1 x2 x3 y0 y1 y2 y3 v0 v1 v2 v3 v4 v5 z0 z1 z2 z3 z4 z5; obtain ⟨x0, x1, x2, x3⟩ := id sx; obtain ⟨y0, y1, y2, y3⟩ := id sy; obtain ⟨v0, v1, v2, v3, v4, v5⟩ := id sv; obtain ⟨z0, z1, z2, z3, z4, z5⟩ := id sz; obtain ⟨a0, a1, a2, a3⟩ := id qa; obtain ⟨b0, b1, b2, b3⟩ := id qb))
        go_meet
        exact ⟨rfl, gq⟩)
    · cases pr
      all_goals (
        go_wp2_with (first | (go_at_call 9; refine (hpr _).mono ?_; rintro e wn ⟨rfl, gn⟩; replace gq := Kp.trans gq gn; replace sx := Fq.H2.keep sx gn; replace sy := Fq.H2.keep sy gn; replace sv := H3c.keep sv gn; replace sz := H3c.keep sz gn; replace hz := hkr _ _ gn hz; replace qa := Fq.H2.keep qa gn; replace qb := Fq.H2.keep qb gn; clear gn a0 a1 a2 a3 b0 b1 b2 b3 x0 x1 x2 x3 y0 y1 y2 y3 v0 v1 v2 v3 v4 v5 z0 z1 z2 z3 z4 z5; obtain ⟨x0, x1, x2, x3⟩ := id sx; obtain ⟨y0, y1, y2, y3⟩ := id sy; obtain ⟨v0, v1, v2, v3, v4, v5⟩ := id sv; obtain ⟨z0, z1, z2, z3, z4, z5⟩ := id sz; obtain ⟨a0, a1, a2, a3⟩ := id qa; obtain ⟨b0, b1, b2, b3⟩ := id qb) | (go_at_call 10; refine (hsp _).mono ?_; rintro e wn ⟨rfl, gn⟩; replace gq := Kp.trans gq gn; replace sx := Fq.H2.keep sx gn; replace sy := Fq.H2.keep sy gn; replace sv := H3c.keep sv gn; replace sz := H3c.keep sz gn; replace hz := hkr _ _ gn hz; replace qa := Fq.H2.keep qa gn; replace qb := Fq.H2.keep qb gn; clear gn a0 a1 a2 a3 b0 b1 b2 b3 x0 x1 x2 x3 y0 y1 y2 y3 v0 v1 v2 v3 v4 v5 z0 z1 z2 z3 z4 z5; obtain ⟨x0, x1, x2, x3⟩ := id sx; obtain ⟨y0, y1, y2, y3⟩ := id sy; obtain ⟨v0, v1, v2, v3, v4, v5⟩ := id sv; obtain ⟨z0, z1, z2, z3, z4, z5⟩ := id sz; obtain ⟨a0, a1, a2, a3⟩ := id qa; obtain ⟨b0, b1, b2, b3⟩ := id qb) | (go_at_call 11; refine (hdj _).mono ?_; rintro e wn ⟨rfl, gn⟩; replace gq := Kp.trans gq gn; replace sx := Fq.H2.keep sx gn; replace sy := Fq.H2.keep sy gn; replace sv := H3c.keep sv gn; replace sz := H3c.keep sz gn; replace hz := hkr _ _ gn hz; replace qa := Fq.H2.keep qa gn; replace qb := Fq.H2.keep qb gn; clear gn a0 a1 a2 a3 b0 b1 b2 b3 x0 x1 x2 x3 y0 y1 y2 y3 v0 v1 v2 v3 v4 v5 z0 z1 z2 z3 z4 z5; obtain ⟨x0, x1, x2, x3⟩ := id sx; obtain ⟨y0, y1, y2, y3⟩ := id sy; obtain ⟨v0, v1, v2, v3, v4, v5⟩ := id sv; obtain ⟨z0, z1, z2, z3, z4, z5⟩ := id sz; obtain ⟨a0, a1, a2, a3⟩ := id qa; obtain ⟨b0, b1, b2, b3⟩ := id qb))
        go_meet
        exact ⟨rfl, gq⟩)
    · cases dj
      all_goals (
        go_wp2_with (first | (go_at_call 9; refine (hpr _).mono ?_; rintro e wn ⟨rfl, gn⟩; replace gq := Kp.trans gq gn; replace sx := Fq.H2.keep sx gn; replace sy := Fq.H2.keep sy gn; replace sv := H3c.keep sv gn; replace sz := H3c.keep sz gn; replace hz := hkr _ _ gn hz; replace qa := Fq.H2.keep qa gn; replace qb := Fq.H2.keep qb gn; clear gn a0 a1 a2 a3 b0 b1 b2 b3 x0 x1 x2 x3 y0 y1 y2 y3 v0 v1 v2 v3 v4 v5 z0 z1 z2 z3 z4 z5; obtain ⟨x0, x1, x2, x3⟩ := id sx; obtain ⟨y0, y1, y2, y3⟩ := id sy; obtain ⟨v0, v1, v2, v3, v4, v5⟩ := id sv; obtain ⟨z0, z1, z2, z3, z4, z5⟩ := id sz; obtain ⟨a0, a1, a2, a3⟩ := id qa; obtain ⟨b0, b1, b2, b3⟩ := id qb) | (go_at_call 10; refine (hsp _).mono ?_; rintro e wn ⟨rfl, gn⟩; replace gq := Kp.trans gq gn; replace sx := Fq.H2.keep sx gn; replace sy := Fq.H2.keep sy gn; replace sv := H3c.keep sv gn; replace sz := H3c.keep sz gn; replace hz := hkr _ _ gn hz; replace qa := Fq.H2.keep qa gn; replace qb := Fq.H2.keep qb gn; clear gn a0 a1 a2 a3 b0 b1 b2 b3 x0 x1 x2 x3 y0 y1 y2 y3 v0 v1 v2 v3 v4 v5 z0 z1 z2 z3 z4 z5; obtain ⟨x0, x1, x2, x3⟩ := id sx; obtain ⟨y0, y1, y2, y3⟩ := id sy; obtain ⟨v0, v1, v2, v3, v4, v5⟩ := id sv; obtain ⟨z0, z1, z2, z3, z4, z5⟩ := id sz; obtain ⟨a0, a1, a2, a3⟩ := id qa; obtain ⟨b0, b1, b2, b3⟩ := id qb) | (go_at_call 11; refine (hdj _).mono ?_; rintro e wn ⟨rfl, gn⟩; replace gq := Kp.trans gq gn; replace sx := Fq.H2.keep sx gn; replace sy := Fq.H2.keep sy gn; replace sv := H3c.keep sv gn; replace sz := H3c.keep sz gn; replace hz := hkr _ _ gn hz; replace qa := Fq.H2.keep qa gn; replace qb := Fq.H2.keep qb gn; clear gn a0 a1 a2 a3 b0 b1 b2 b3 x0 x1 x2 x3 y0 y1 y2 y3 v0 v1 v2 v3 v4 v5 z0 z1 z2 z3 z4 z5; obtain ⟨x0, x1, x2, x3⟩ := id sx; obtain ⟨y0, y1, y2, y3⟩ := id sy; obtain ⟨v0, v1, v2, v3, v4, v5⟩ := id sv; obtain ⟨z0, z1, z2, z3, z4, z5⟩ := id sz; obtain ⟨a0, a1, a2, a3⟩ := id qa; obtain ⟨b0, b1, b2, b3⟩ := id qb))
        go_meet
        exact ⟨rfl, gq⟩)
  case rest =>
  obtain ⟨rfl, gc⟩ := hcut
  replace sx := Fq.H2.keep sx gc; replace sy := Fq.H2.keep sy gc; replace sv := H3c.keep sv gc; replace sz := H3c.keep sz gc; replace hz := hkr _ _ gc hz; replace kW := Kp.trans kW gc; replace qa := Fq.H2.keep qa gc; replace qb := Fq.H2.keep qb gc
  clear gc
  generalize wc = W at sx sy sv sz hz kW qa qb ⊢
  go_upto_region 10 with fail
  go_cut [88] (fun s88 wx => s88 = .bool false ∧ Kp W wx)
  case first =>
    obtain ⟨-, g10, -⟩ := HG.out
    clear HG
    have gq : Kp W W := Kp.refl W
    obtain ⟨x0, x1, x2, x3⟩ := id sx; obtain ⟨y0, y1, y2, y3⟩ := id sy; obtain ⟨v0, v1, v2, v3, v4, v5⟩ := id sv; obtain ⟨z0, z1, z2, z3, z4, z5⟩ := id sz; obtain ⟨a0, a1, a2, a3⟩ := id qa; obtain ⟨b0, b1, b2, b3⟩ := id qb
    rcases g10 with ⟨rfl, rfl, rfl⟩ | rfl
    · go_wp2_with (first | (go_at_call 12; refine (hsu _).mono ?_; rintro e wn ⟨rfl, gn⟩; replace gq := Kp.trans gq gn; replace sx := Fq.H2.keep sx gn; replace sy := Fq.H2.keep sy gn; replace sv := H3c.keep sv gn; replace sz := H3c.keep sz gn; replace hz := hkr _ _ gn hz; replace qa := Fq.H2.keep qa gn; replace qb := Fq.H2.keep qb gn; clear gn a0 a1 a2 a3 b0 b1 b2 b3 x0 x1 x2 x3 y0 y1 y2 y3 v0 v1 v2 v3 v4 v5 z0 z1 z2 z3 z4 z5; obtain ⟨x0, x1, x2, x3⟩ := id sx; obtain ⟨y0, y1, y2, y3⟩ := id sy; obtain ⟨v0, v1, v2, v3, v4, v5⟩ := id sv; obtain ⟨z0, z1, z2, z3, z4, z5⟩ := id sz; obtain ⟨a0, a1, a2, a3⟩ := id qa; obtain ⟨b0, b1, b2, b3⟩ := id qb) | (go_at_call 13; refine (heq _).mono ?_; rintro e wn ⟨rfl, gn⟩; replace gq := Kp.trans gq gn; replace sx := Fq.H2.keep sx gn; replace sy := Fq.H2.keep sy gn; replace sv := H3c.keep sv gn; replace sz := H3c.keep sz gn; replace hz := hkr _ _ gn hz; replace qa := Fq.H2.keep qa gn; replace qb := Fq.H2.keep qb gn; clear gn a0 a1 a2 a3 b0 b1 b2 b3 x0 x1 x2 x3 y0 y1 y2 y3 v0 v1 v2 v3 v4 v5 z0 z1 z2 z3 z4 z5; obtain ⟨x0, x1, x2, x3⟩ := id sx; obtain ⟨y0, y1, y2, y3⟩ := id sy; obtain ⟨v0, v1, v2, v3, v4, v5⟩ := id sv; obtain ⟨z0, z1, z2, z3, z4, z5⟩ := id sz; obtain ⟨a0, a1, a2, a3⟩ := id qa; obtain ⟨b0, b1, b2, b3⟩ := id qb) | (go_at_call 14; refine (hit _).mono ?_; rintro e wn ⟨rfl, gn⟩; replace gq := Kp.trans gq gn; replace sx := Fq.H2.keep sx gn; replace sy := Fq.H2.keep sy gn; replace sv := H3c.keep sv gn; replace sz := H3c.keep sz gn; replace hz := hkr _ _ gn hz; replace qa := Fq.H2.keep qa gn; replace qb := Fq.H2.keep qb gn; clear gn a0 a1 a2 a3 b0 b1 b2 b3 x0 x1 x2 x3 y0 y1 y2 y3 v0 v1 v2 v3 v4 v5 z0 z1 z2 z3 z4 z5; obtain ⟨x0, x1, x2, x3⟩ := id sx; obtain ⟨y0, y1, y2, y3⟩ := id sy; obtain ⟨v0, v1, v2, v3, v4, v5⟩ := id sv; obtain ⟨z0, z1, z2, z3, z4, z5⟩ := id sz; obtain ⟨a0, a1, a2, a3⟩ := id qa; obtain ⟨b0, b1, b2, b3⟩ := id qb))
      go_meet
      exact ⟨rfl, gq⟩
    · cases su <;> cases eq <;> cases it
      all_goals (
        go_wp2_with (first | (go_at_call 12; refine (hsu _).mono ?_; rintro e wn ⟨rfl, gn⟩; replace gq := Kp.trans gq gn; replace sx := Fq.H2.keep sx gn; replace sy := Fq.H2.keep sy gn; replace sv := H3c.keep sv gn; replace sz := H3c.keep sz gn; replace hz := hkr _ _ gn hz; replace qa := Fq.H2.keep qa gn; replace qb := Fq.H2.keep qb gn; clear gn a0 a1 a2 a3 b0 b1 b2 b3 x0 x1 x2 x3 y0 y1 y2 y3 v0 v1 v2 v3 v4 v5 z0 z1 z2 z3 z4 z5; obtain ⟨x0, x1, x2, x3⟩ := id sx; obtain ⟨y0, y1, y2, y3⟩ := id sy; obtain ⟨v0, v1, v2, v3, v4, v5⟩ := id sv; obtain ⟨z0, z1, z2, z3, z4, z5⟩ := id sz; obtain ⟨a0, a1, a2, a3⟩ := id qa; obtain ⟨b0, b1, b2, b3⟩ := id qb) | (go_at_call 13; refine (heq _).mono ?_; rintro e wn ⟨rfl, gn⟩; replace gq := Kp.trans gq gn; replace sx := Fq.H2.keep sx gn; replace sy := Fq.H2.keep sy gn; replace sv := H3c.keep sv gn; replace sz := H3c.keep sz gn; replace hz := hkr _ _ gn hz; replace qa := Fq.H2.keep qa gn; replace qb := Fq.H2.keep qb gn; clear gn a0 a1 a2 a3 b0 b1 b2 b3 x0 x1 x2 x3 y0 y1 y2 y3 v0 v1 v2 v3 v4 v5 z0 z1 z2 z3 z4 z5; obtain ⟨x0, x1, x2, x3⟩ := id sx; obtain ⟨y0, y1, y2, y3⟩ := id sy; obtain ⟨v0, v1, v2, v3, v4, v5⟩ := id sv; obtain ⟨z0, z1, z2, z3, z4, z5⟩ := id sz; obtain ⟨a0, a1, a2, a3⟩ := id qa; obtain ⟨b0, b1, b2, b3⟩ := id qb) | (go_at_call 14; refine (hit _).mono ?_; rintro e wn ⟨rfl, gn⟩; replace gq := Kp.trans gq gn; replace sx := Fq.H2.keep sx gn; replace sy := Fq.H2.keep sy gn; replace sv := H3c.keep sv gn; replace sz := H3c.keep sz gn; replace hz := hkr _ _ gn hz; replace qa := Fq.H2.keep qa gn; replace qb := Fq.H2.keep qb gn; clear gn a0 a1 a2 a3 b0 b1 b2 b3 x0 x1 x2 x3 y0 y1 y2 y3 v0 v1 v2 v3 v4 v5 z0 z1 z2 z3 z4 z5; obtain ⟨x0, x1, x2, x3⟩ := id sx; obtain ⟨y0, y1, y2, y3⟩ := id sy; obtain ⟨v0, v1, v2, v3, v4, v5⟩ := id sv; obtain ⟨z0, z1, z2, z3, z4, z5⟩ := id sz; obtain ⟨a0, a1, a2, a3⟩ := id qa; obtain ⟨b0, b1, b2, b3⟩ := id qb) | (go_at_call 6; refine (f3 _ hz).mono ?_; rintro e wn ⟨rfl, gn⟩; replace gq := Kp.trans gq gn))
        go_meet
        exact ⟨rfl, gq⟩)
  case rest =>
  obtain ⟨rfl, gc⟩ := hcut
  replace sx := Fq.H2.keep sx gc; replace sy := Fq.H2.keep sy gc; replace sv := H3c.keep sv gc; replace sz := H3c.keep sz gc; replace hz := hkr _ _ gc hz; replace kW := Kp.trans kW gc; replace qa := Fq.H2.keep qa gc; replace qb := Fq.H2.keep qb gc
  clear gc
  generalize wc = W at sx sy sv sz hz kW qa qb ⊢
  obtain ⟨-, -, g12⟩ := HG.out
  clear HG
  have gq : Kp W W := Kp.refl W
  obtain ⟨x0, x1, x2, x3⟩ := id sx; obtain ⟨y0, y1, y2, y3⟩ := id sy; obtain ⟨v0, v1, v2, v3, v4, v5⟩ := id sv; obtain ⟨z0, z1, z2, z3, z4, z5⟩ := id sz; obtain ⟨a0, a1, a2, a3⟩ := id qa; obtain ⟨b0, b1, b2, b3⟩ := id qb
  rcases g12 with rfl | rfl
  · go_wp2_with (first | (go_at_call 13; refine (heq _).mono ?_; rintro e wn ⟨rfl, gn⟩; replace gq := Kp.trans gq gn; replace sx := Fq.H2.keep sx gn; replace sy := Fq.H2.keep sy gn; replace sv := H3c.keep sv gn; replace sz := H3c.keep sz gn; replace hz := hkr _ _ gn hz; replace qa := Fq.H2.keep qa gn; replace qb := Fq.H2.keep qb gn; clear gn a0 a1 a2 a3 b0 b1 b2 b3 x0 x1 x2 x3 y0 y1 y2 y3 v0 v1 v2 v3 v4 v5 z0 z1 z2 z3 z4 z5; obtain ⟨x0, x1, x2, x3⟩ := id sx; obtain ⟨y0, y1, y2, y3⟩ := id sy; obtain ⟨v0, v1, v2, v3, v4, v5⟩ := id sv; obtain ⟨z0, z1, z2, z3, z4, z5⟩ := id sz; obtain ⟨a0, a1, a2, a3⟩ := id qa; obtain ⟨b0, b1, b2, b3⟩ := id qb))
    exact bodyPost_ret (v := .bool true) (by simp [results, Try.results3, go_sem]) rfl ⟨rfl, (Kp.trans kW gq)⟩
  · cases eq
    all_goals (
      go_wp2_with (first | (go_at_call 13; refine (heq _).mono ?_; rintro e wn ⟨rfl, gn⟩; replace gq := Kp.trans gq gn; replace sx := Fq.H2.keep sx gn; replace sy := Fq.H2.keep sy gn; replace sv := H3c.keep sv gn; replace sz := H3c.keep sz gn; replace hz := hkr _ _ gn hz; replace qa := Fq.H2.keep qa gn; replace qb := Fq.H2.keep qb gn; clear gn a0 a1 a2 a3 b0 b1 b2 b3 x0 x1 x2 x3 y0 y1 y2 y3 v0 v1 v2 v3 v4 v5 z0 z1 z2 z3 z4 z5; obtain ⟨x0, x1, x2, x3⟩ := id sx; obtain ⟨y0, y1, y2, y3⟩ := id sy; obtain ⟨v0, v1, v2, v3, v4, v5⟩ := id sv; obtain ⟨z0, z1, z2, z3, z4, z5⟩ := id sz; obtain ⟨a0, a1, a2, a3⟩ := id qa; obtain ⟨b0, b1, b2, b3⟩ := id qb) | (go_at_call 6; refine (f4 _ hz).mono ?_; rintro e wn ⟨rfl, gn⟩; replace gq := Kp.trans gq gn))
      exact bodyPost_ret (v := .bool true) (by simp [results, Try.results3, go_sem]) rfl ⟨rfl, (Kp.trans kW gq)⟩)
theorem normW_ (v : Value) (y : Nat) (W : World) (h : LN9 W v y) : Calls Try.prog 5 #[v] W fun e w' => ∃ (pn : Option Addr) (cn : Nat), e = .returned (.slice pn (dig y).length cn) ∧ Kp W w' := by
  obtain ⟨L, h1, h2, h3, h4⟩ := h
  have g := normR v L W h1 h2 h3
  rw [h4] at g
  exact g.mono fun e w' ⟨v', e1, ⟨p, c, e2, _, _⟩, k⟩ => ⟨p, c, by rw [e1, e2], k⟩
theorem twos_ (a b c d : Nat) (ha : a < 18446744073709551616) (hb : b < 18446744073709551616) (hc : c < 18446744073709551616) (hd : d < 18446744073709551616) (s3 : Bool) (p3 : Option Addr) (c3 : Nat) (xs : List Int) (q3 : Option Addr) (d3 : Nat) (ys : List Int) (s4 : Bool) (p4 : Option Addr) (c4 : Nat) (us : List Int) (q4 : Option Addr) (d4 : Nat) (vs : List Int) (w : World) (ax : Arr w p3 xs) (wx : Wd xs) (kx : xs.length ≤ c3) (lx : xs.length ≤ 1048576) (ay : Arr w q3 ys) (wy : Wd ys) (ky : ys.length ≤ d3) (ly : ys.length ≤ 1048576) (au : Arr w p4 us) (wu : Wd us) (ku : us.length ≤ c4) (lu : us.length ≤ 1048576) (av : Arr w q4 vs) (wv : Wd vs) (kv : vs.length ≤ d4) (lv : vs.length ≤ 1048576) : Calls Try.prog 3 #[.agg #[.int .u64 ((a : Nat) : Int), .int .u64 ((b : Nat) : Int)], .agg #[.int .u64 ((c : Nat) : Int), .int .u64 ((d : Nat) : Int)], .agg #[.bool s3, .slice p3 xs.length c3, .slice q3 ys.length d3], .agg #[.bool s4, .slice p4 us.length c4, .slice q4 vs.length d4]] w fun e w' => e = .returned (.bool true) ∧ Kp w w' := by
  obtain ⟨L1, H1, r1⟩ := Rd.ex a b ha hb
  obtain ⟨L2, H2, r2⟩ := Rd.ex c d hc hd
  obtain ⟨K, hK⟩ : ∃ K : Nat, K = 1074 := ⟨_, rfl⟩
  have d1 := r1.vd
  have d2 := r2.vd
  have hz0 : (fun W => (LN9 W (.slice p3 xs.length c3) (val xs) ∧ LN9 W (.slice q3 ys.length d3) (val ys)) ∧ (LN9 W (.slice p4 us.length c4) (val us) ∧ LN9 W (.slice q4 vs.length d4) (val vs))) w := ⟨⟨⟨xs, ⟨p3, c3, rfl, ax, kx⟩, wx, lx, rfl⟩, ⟨ys, ⟨q3, d3, rfl, ay, ky⟩, wy, ly, rfl⟩⟩, ⟨⟨us, ⟨p4, c4, rfl, au, ku⟩, wu, lu, rfl⟩, ⟨vs, ⟨q4, d4, rfl, av, kv⟩, wv, lv, rfl⟩⟩⟩
  have hkr : ∀ W W' : World, Kp W W' → (fun W => (LN9 W (.slice p3 xs.length c3) (val xs) ∧ LN9 W (.slice q3 ys.length d3) (val ys)) ∧ (LN9 W (.slice p4 us.length c4) (val us) ∧ LN9 W (.slice q4 vs.length d4) (val vs))) W → (fun W => (LN9 W (.slice p3 xs.length c3) (val xs) ∧ LN9 W (.slice q3 ys.length d3) (val ys)) ∧ (LN9 W (.slice p4 us.length c4) (val us) ∧ LN9 W (.slice q4 vs.length d4) (val vs))) W' := fun W W' g h => ⟨⟨h.1.1.kp g, h.1.2.kp g⟩, ⟨h.2.1.kp g, h.2.2.kp g⟩⟩
  have hn1 : ∀ W : World, (fun W => (LN9 W (.slice p3 xs.length c3) (val xs) ∧ LN9 W (.slice q3 ys.length d3) (val ys)) ∧ (LN9 W (.slice p4 us.length c4) (val us) ∧ LN9 W (.slice q4 vs.length d4) (val vs))) W → Calls Try.prog 5 #[.slice q3 ys.length d3] W fun e w' => ∃ (pn : Option Addr) (cn : Nat), e = .returned (.slice pn (dig (val ys)).length cn) ∧ Kp W w' := fun W h => normW_ _ _ W h.1.2
  have hn2 : ∀ W : World, (fun W => (LN9 W (.slice p3 xs.length c3) (val xs) ∧ LN9 W (.slice q3 ys.length d3) (val ys)) ∧ (LN9 W (.slice p4 us.length c4) (val us) ∧ LN9 W (.slice q4 vs.length d4) (val vs))) W → Calls Try.prog 5 #[.slice q4 vs.length d4] W fun e w' => ∃ (pn : Option Addr) (cn : Nat), e = .returned (.slice pn (dig (val vs)).length cn) ∧ Kp W w' := fun W h => normW_ _ _ W h.2.2
  have hl1 := dig_len_zero (val ys)
  have hl2 := dig_len_zero (val vs)
  by_cases zy : val ys = 0
  · exact twoZ1_ _ _ _ _ s3 p3 xs.length c3 q3 ys.length d3 s4 p4 us.length c4 q4 vs.length d4 _ hkr _ hn1 (by rw [hl1.2 zy]; rfl) w hz0
  have n1 : ¬ (((dig (val ys)).length : Int) = 0) := by have := mt hl1.1 zy; omega
  by_cases zv : val vs = 0
  · exact twoZ2_ _ _ _ _ s3 p3 xs.length c3 q3 ys.length d3 s4 p4 us.length c4 q4 vs.length d4 _ hkr _ hn1 _ hn2 n1 (by rw [hl2.2 zv]; rfl) w hz0
  have n2 : ¬ (((dig (val vs)).length : Int) = 0) := by have := mt hl2.1 zv; omega
  have f1 : ∀ W : World, (fun W => (LN9 W (.slice p3 xs.length c3) (val xs) ∧ LN9 W (.slice q3 ys.length d3) (val ys)) ∧ (LN9 W (.slice p4 us.length c4) (val us) ∧ LN9 W (.slice q4 vs.length d4) (val vs))) W → Calls Try.prog 6 #[.agg #[.int .u64 ((a : Nat) : Int), .int .u64 ((b : Nat) : Int)], .agg #[.bool s3, .slice p3 xs.length c3, .slice q3 ys.length d3]] W fun e w' => e = .returned (.bool (decide (loC K s3 (val xs) (val ys) L1 ≤ 0) && decide (hiC K s3 (val xs) (val ys) H1 ≤ 0))) ∧ Kp W w' := (fun W h => holdsW_ K hK a b L1 H1 r1 s3 p3 xs.length c3 q3 ys.length d3 (val xs) (val ys) W ⟨h.1.1, h.1.2, zy⟩)
  have f2 : ∀ W : World, (fun W => (LN9 W (.slice p3 xs.length c3) (val xs) ∧ LN9 W (.slice q3 ys.length d3) (val ys)) ∧ (LN9 W (.slice p4 us.length c4) (val us) ∧ LN9 W (.slice q4 vs.length d4) (val vs))) W → Calls Try.prog 6 #[.agg #[.int .u64 ((c : Nat) : Int), .int .u64 ((d : Nat) : Int)], .agg #[.bool s4, .slice p4 us.length c4, .slice q4 vs.length d4]] W fun e w' => e = .returned (.bool (decide (loC K s4 (val us) (val vs) L2 ≤ 0) && decide (hiC K s4 (val us) (val vs) H2 ≤ 0))) ∧ Kp W w' := (fun W h => holdsW_ K hK c d L2 H2 r2 s4 p4 us.length c4 q4 vs.length d4 (val us) (val vs) W ⟨h.2.1, h.2.2, zv⟩)
  by_cases v1 : loC K s3 (val xs) (val ys) L1 ≤ 0 ∧ hiC K s3 (val xs) (val ys) H1 ≤ 0
  · rw [decide_eq_true v1.1, decide_eq_true v1.2] at f1
    by_cases v2 : loC K s4 (val us) (val vs) L2 ≤ 0 ∧ hiC K s4 (val us) (val vs) H2 ≤ 0
    · rw [decide_eq_true v2.1, decide_eq_true v2.2] at f2
      obtain ⟨p1, p2⟩ := two_prec K s3 s4 (val xs) (val ys) (val us) (val vs) zy zv H1 L2 d1.hi d2.lo v1.2 v2.1
      have hC : ∀ W : World, (fun W => (LN9 W (.slice p3 xs.length c3) (val xs) ∧ LN9 W (.slice q3 ys.length d3) (val ys)) ∧ (LN9 W (.slice p4 us.length c4) (val us) ∧ LN9 W (.slice q4 vs.length d4) (val vs))) W → Calls Try.prog 7 #[.agg #[.bool s3, .slice p3 xs.length c3, .slice q3 ys.length d3], .agg #[.bool s4, .slice p4 us.length c4, .slice q4 vs.length d4]] W fun e w' => e = .returned (.int .i64 (cmI (rvI s3 (val xs) * (val vs : Nat)) (rvI s4 (val us) * (val ys : Nat)))) ∧ Kp W w' := fun W h => rcmpW_ s3 p3 xs.length c3 q3 ys.length d3 s4 p4 us.length c4 q4 vs.length d4 (val xs) (val ys) (val us) (val vs) W h.1.1 h.1.2 h.2.1 h.2.2 zy zv
      have l1 : L1 ≠ 9218868437227405312 := by intro h; have := v1.1; rw [loC_le] at this; omega
      have l2 : L2 ≠ 9218868437227405312 := by intro h; have := v2.1; rw [loC_le] at this; omega
      refine twoT_ _ _ _ _ s3 p3 xs.length c3 q3 ys.length d3 s4 p4 us.length c4 q4 vs.length d4 _ hkr a b c d _ _ _ _ _ _ _ _ _ _ hn1 _ hn2 n1 n2 f1 f2 (fun W h => holdsW_ K hK c d L2 H2 r2 s3 p3 xs.length c3 q3 ys.length d3 (val xs) (val ys) W ⟨h.1.1, h.1.2, zy⟩) (fun W h => holdsW_ K hK a b L1 H1 r1 s4 p4 us.length c4 q4 vs.length d4 (val us) (val vs) W ⟨h.2.1, h.2.2, zv⟩) hC (in9_ a b) (in9_ c d) (precedes9_ a b c d L1 H1 L2 H2 r1 r2) (sprec9_ a b c d L1 H1 L2 H2 r1 r2) (disj9_ a b c d L1 H1 L2 H2 r1 r2) (subset9_ a b c d L1 H1 L2 H2 r1 r2) (equal9_ a b c d L1 H1 L2 H2 r1 r2) (interior9_ a b c d L1 H1 L2 H2 r1 r2) ?_ ?_ ?_ w hz0
      · rcases cmI_three (rvI s3 (val xs) * (val vs : Nat)) (rvI s4 (val us) * (val ys : Nat)) with h | ⟨h, he⟩ | h
        · exact Or.inl h
        · right; left
          refine ⟨h, decide_eq_false ?_, decide_eq_false ?_⟩
          · rintro (g | g | g)
            · exact l1 g
            · exact l2 g
            · rw [p2 g] at h; cases h
          · intro g
            have s1 := same_lo K s3 s4 (val xs) (val ys) (val us) (val vs) zy zv he
            have a1 := lo_hi K s3 (val xs) (val ys) zy L1 H1 d1.lo d1.hi v1.1 v1.2
            have a2 := lo_hi K s3 (val xs) (val ys) zy L1 H2 d1.lo d2.hi v1.1 ((s1 H2).2 v2.2)
            have a3 := lo_hi K s3 (val xs) (val ys) zy L2 H1 d2.lo d1.hi ((s1 L2).1 v2.1) v1.2
            have a4 := lo_hi K s3 (val xs) (val ys) zy L2 H2 d2.lo d2.hi ((s1 L2).1 v2.1) ((s1 H2).2 v2.2)
            omega
        · right; right
          refine ⟨h, decide_eq_false ?_, decide_eq_false ?_⟩
          · intro g; have := p1 g; rw [h] at this; omega
          · rintro (g | g | g)
            · exact l1 g
            · exact l2 g
            · rw [p2 g] at h; cases h
      · by_cases g : L2 ≤ L1 ∧ H1 ≤ H2
        · right
          rw [decide_eq_true (lo_mono K s3 (val xs) (val ys) L2 L1 d2.lo d1.lo g.1 v1.1), decide_eq_true (hi_mono K s3 (val xs) (val ys) H1 H2 d1.hi d2.hi g.2 v1.2)]; rfl
        · left
          have b1 := d1.lo
          have b2 := d2.lo
          have b3 := d1.hi
          have b4 := d2.hi
          unfold BdZ at b1 b2 b3 b4
          refine ⟨decide_eq_false g, decide_eq_false (fun h => g (by omega)), decide_eq_false (fun h => g ?_)⟩
          omega
      · by_cases g : L1 = L2 ∧ H1 = H2
        · right
          rw [g.1, g.2, decide_eq_true v2.1, decide_eq_true v2.2]; rfl
        · exact Or.inl (decide_eq_false g)
    · rw [← Bool.decide_and, decide_eq_false v2] at f2
      exact twoV2_ _ _ _ _ s3 p3 xs.length c3 q3 ys.length d3 s4 p4 us.length c4 q4 vs.length d4 _ hkr _ hn1 _ hn2 n1 n2 f1 f2 w hz0
  · rw [← Bool.decide_and, decide_eq_false v1] at f1
    exact twoV1_ _ _ _ _ s3 p3 xs.length c3 q3 ys.length d3 s4 p4 us.length c4 q4 vs.length d4 _ hkr _ hn1 _ hn2 n1 n2 f1 w hz0
end Go.Proofs.Ytpgaokifmaoamaa
