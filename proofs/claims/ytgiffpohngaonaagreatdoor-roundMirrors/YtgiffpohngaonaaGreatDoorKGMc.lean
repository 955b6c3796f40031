import Derived.Test.YtgiffpohngaonaaGreatDoorProg
import Derived.Test.YtgiffpohngaonaaGreatDoorKXA0
import Derived.Test.YtgiffpohngaonaaGreatDoorKXM
import Derived.Test.YtgiffpohngaonaaGreatDoorKXY
import Derived.Test.YtgiffpohngaonaaGreatDoorKXQF
import Derived.Test.YtgiffpohngaonaaGreatDoorKQA
import Derived.Test.YtgiffpohngaonaaGreatDoorKQP
import Derived.Test.YtgiffpohngaonaaGreatDoorKXQU
import Derived.Test.YtgiffpohngaonaaGreatDoorKQB
import Derived.Test.YtgiffpohngaonaaGreatDoorKQBT
import Derived.Test.YtgiffpohngaonaaGreatDoorKXQJ
import Derived.Test.YtgiffpohngaonaaGreatDoorKXLB
import Derived.Test.YtgiffpohngaonaaGreatDoorKXMR
import Derived.Test.YtgiffpohngaonaaGreatDoorKXG1
import Derived.Test.YtgiffpohngaonaaGreatDoorKXH2Q
import Derived.Test.YtgiffpohngaonaaGreatDoorKXNM
import Derived.Test.YtgiffpohngaonaaGreatDoorKXMQ
import Derived.Test.YtgiffpohngaonaaGreatDoorKXMS
import Derived.Test.YtgiffpohngaonaaGreatDoorKXO3
import Derived.Test.YtgiffpohngaonaaGreatDoorKXO
import Derived.Test.YtgiffpohngaonaaGreatDoorKXP
import Derived.Test.YtgiffpohngaonaaGreatDoorKXS2
import Derived.Test.YtgiffpohngaonaaGreatDoorKXS4
import Derived.Test.YtgiffpohngaonaaGreatDoorKXS8
import Derived.Test.YtgiffpohngaonaaGreatDoorKXU1
import Derived.Test.YtgiffpohngaonaaGreatDoorKXU3
import Derived.Test.YtgiffpohngaonaaGreatDoorKU5
import Derived.Test.YtgiffpohngaonaaGreatDoorKXYC
import Derived.Test.YtgiffpohngaonaaGreatDoorKXZA
import Derived.Test.YtgiffpohngaonaaGreatDoorKXZD
import Derived.Test.YtgiffpohngaonaaGreatDoorKXTZ
import Derived.Test.YtgiffpohngaonaaGreatDoorKXGR
import Derived.Test.YtgiffpohngaonaaGreatDoorKXGM
import Derived.WalkKit
import Derived.ProofKit
import Derived.RowKit3
import Derived.WalkSpells
import Derived.StillTactics
import Derived.Deep.QuietTactic
import Derived.BigQuiet
import Derived.Below
import Derived.Deep.OwnRows
import Derived.OwnWalk
import Derived.Laws.BitsAllLaws
import Derived.Laws.Slices
import Derived.Laws.Bits64b
import Derived.Laws.FloatArith
namespace Go.Proofs.YtgiffpohngaonaaGreatDoor
open Go.RowKit
set_option linter.unusedVariables false
set_option linter.unusedSimpArgs false
set_option maxRecDepth 20000 in
set_option maxHeartbeats 1000000 in
theorem asked0_ (d : Int) (x y z : Nat) (Z : Int) (w : World) (ho : Calls Tryz.prog 10 #[.int .i64 d, .float .f64 x, .float .f64 y] w fun e w' => ∃ R, e = .returned (.float .f64 R) ∧ (∀ w1 : World, Calls Tryz.prog 9 #[.float .f64 R] w1 fun e w' => e = .returned (.int .u64 Z) ∧ w' = w1) ∧ Kp w w') : Calls Tryz.prog 5 #[.int .i64 0, .int .i64 d, .float .f64 x, .float .f64 y, .float .f64 z] w fun e w' => e = .returned (.int .u64 Z) ∧ Kp w w' := by
  go_enter Tryz.func5, Tryz.ntmps5
  go_wp2_with (first | (go_at_call 10; refine ho.mono ?_; rintro e w1 ⟨R, rfl, hb, g1⟩) | (go_at_call 9; refine (hb _).mono ?_; rintro e w2 ⟨rfl, hw9⟩; obtain rfl := hw9.symm; clear hw9))
  exact bodyPost_ret (v := .int .u64 Z) (by simp [results, Tryz.results5, go_sem]) rfl ⟨rfl, g1⟩
set_option maxRecDepth 20000 in
set_option maxHeartbeats 1000000 in
theorem asked1_ (d : Int) (x y z : Nat) (Z : Int) (w : World) (ho : Calls Tryz.prog 11 #[.int .i64 d, .float .f64 x, .float .f64 y] w fun e w' => ∃ R, e = .returned (.float .f64 R) ∧ (∀ w1 : World, Calls Tryz.prog 9 #[.float .f64 R] w1 fun e w' => e = .returned (.int .u64 Z) ∧ w' = w1) ∧ Kp w w') : Calls Tryz.prog 5 #[.int .i64 1, .int .i64 d, .float .f64 x, .float .f64 y, .float .f64 z] w fun e w' => e = .returned (.int .u64 Z) ∧ Kp w w' := by
  go_enter Tryz.func5, Tryz.ntmps5
  go_wp2_with (first | (go_at_call 11; refine ho.mono ?_; rintro e w1 ⟨R, rfl, hb, g1⟩) | (go_at_call 9; refine (hb _).mono ?_; rintro e w2 ⟨rfl, hw9⟩; obtain rfl := hw9.symm; clear hw9))
  exact bodyPost_ret (v := .int .u64 Z) (by simp [results, Tryz.results5, go_sem]) rfl ⟨rfl, g1⟩
set_option maxRecDepth 20000 in
set_option maxHeartbeats 1000000 in
theorem asked2_ (d : Int) (x y z : Nat) (Z : Int) (w : World) (ho : Calls Tryz.prog 12 #[.int .i64 d, .float .f64 x, .float .f64 y] w fun e w' => ∃ R, e = .returned (.float .f64 R) ∧ (∀ w1 : World, Calls Tryz.prog 9 #[.float .f64 R] w1 fun e w' => e = .returned (.int .u64 Z) ∧ w' = w1) ∧ Kp w w') : Calls Tryz.prog 5 #[.int .i64 2, .int .i64 d, .float .f64 x, .float .f64 y, .float .f64 z] w fun e w' => e = .returned (.int .u64 Z) ∧ Kp w w' := by
  go_enter Tryz.func5, Tryz.ntmps5
  go_wp2_with (first | (go_at_call 12; refine ho.mono ?_; rintro e w1 ⟨R, rfl, hb, g1⟩) | (go_at_call 9; refine (hb _).mono ?_; rintro e w2 ⟨rfl, hw9⟩; obtain rfl := hw9.symm; clear hw9))
  exact bodyPost_ret (v := .int .u64 Z) (by simp [results, Tryz.results5, go_sem]) rfl ⟨rfl, g1⟩
set_option maxRecDepth 20000 in
set_option maxHeartbeats 1000000 in
theorem asked3_ (d : Int) (x y z : Nat) (Z : Int) (w : World) (ho : Calls Tryz.prog 13 #[.int .i64 d, .float .f64 x, .float .f64 y] w fun e w' => ∃ R, e = .returned (.float .f64 R) ∧ (∀ w1 : World, Calls Tryz.prog 9 #[.float .f64 R] w1 fun e w' => e = .returned (.int .u64 Z) ∧ w' = w1) ∧ Kp w w') : Calls Tryz.prog 5 #[.int .i64 3, .int .i64 d, .float .f64 x, .float .f64 y, .float .f64 z] w fun e w' => e = .returned (.int .u64 Z) ∧ Kp w w' := by
  go_enter Tryz.func5, Tryz.ntmps5
  go_wp2_with (first | (go_at_call 13; refine ho.mono ?_; rintro e w1 ⟨R, rfl, hb, g1⟩) | (go_at_call 9; refine (hb _).mono ?_; rintro e w2 ⟨rfl, hw9⟩; obtain rfl := hw9.symm; clear hw9))
  exact bodyPost_ret (v := .int .u64 Z) (by simp [results, Tryz.results5, go_sem]) rfl ⟨rfl, g1⟩
set_option maxRecDepth 20000 in
set_option maxHeartbeats 1000000 in
theorem asked4_ (d : Int) (x y z : Nat) (Z : Int) (w : World) (ho : Calls Tryz.prog 14 #[.int .i64 d, .float .f64 x, .float .f64 y, .float .f64 z] w fun e w' => ∃ R, e = .returned (.float .f64 R) ∧ (∀ w1 : World, Calls Tryz.prog 9 #[.float .f64 R] w1 fun e w' => e = .returned (.int .u64 Z) ∧ w' = w1) ∧ Kp w w') : Calls Tryz.prog 5 #[.int .i64 4, .int .i64 d, .float .f64 x, .float .f64 y, .float .f64 z] w fun e w' => e = .returned (.int .u64 Z) ∧ Kp w w' := by
  go_enter Tryz.func5, Tryz.ntmps5
  go_wp2_with (first | (go_at_call 14; refine ho.mono ?_; rintro e w1 ⟨R, rfl, hb, g1⟩) | (go_at_call 9; refine (hb _).mono ?_; rintro e w2 ⟨rfl, hw9⟩; obtain rfl := hw9.symm; clear hw9))
  exact bodyPost_ret (v := .int .u64 Z) (by simp [results, Tryz.results5, go_sem]) rfl ⟨rfl, g1⟩
set_option maxRecDepth 20000 in
set_option maxHeartbeats 400000 in
theorem mirA_ (X : Int) (t : (X == 0) = true ∨ ((X == 0) = false ∧ (X == 9221120237041090561) = true)) (w : World) : Calls Tryz.prog 6 #[.int .u64 X] w fun e w' => e = .returned (.int .u64 X) ∧ w' = w := by
  rcases t with t1 | ⟨t1, t2⟩
  all_goals (
    go_enter Tryz.func6, Tryz.ntmps6
    go_wp2
    exact bodyPost_ret (v := .int .u64 X) (by simp [results, Tryz.results6, go_sem]) rfl ⟨rfl, rfl⟩)
set_option maxRecDepth 20000 in
set_option maxHeartbeats 400000 in
theorem mirB_ (X Y : Int) (t1 : (X == 0) = false) (t2 : (X == 9221120237041090561) = false) (e : bits .xor .u64 X 9223372036854775808 = Y) (w : World) : Calls Tryz.prog 6 #[.int .u64 X] w fun e w' => e = .returned (.int .u64 Y) ∧ w' = w := by
  go_enter Tryz.func6, Tryz.ntmps6
  go_wp2
  exact bodyPost_ret (v := .int .u64 Y) (by simp [results, Tryz.results6, go_sem]) rfl ⟨rfl, rfl⟩
theorem mir_ (o : Option Int) (h : okO o) (w : World) : Calls Tryz.prog 6 #[.int .u64 ((zc o : Nat) : Int)] w fun e w' => e = .returned (.int .u64 ((zc (ng o) : Nat) : Int)) ∧ w' = w := by
  cases o with
  | none => exact mirA_ _ (Or.inr ⟨by decide, by decide⟩) w
  | some z =>
    have hz := h z rfl
    show Calls Tryz.prog 6 #[.int .u64 ((pz z : Nat) : Int)] w fun e w' => e = .returned (.int .u64 ((pz (-z) : Nat) : Int)) ∧ w' = w
    by_cases c : z = 0
    · rw [c]; exact mirA_ _ (Or.inl (by decide)) w
    · obtain ⟨n1, n2⟩ := pz_ne z c hz
      refine mirB_ _ _ (by simp; omega) (by simp; omega) ?_ w
      have h1 := u64_xor_nat (pz z) 9223372036854775808 (pz_lt z hz) (by decide)
      rw [pz_neg z c hz] at h1
      exact h1
set_option maxRecDepth 20000 in
set_option maxHeartbeats 4000000 in
theorem mirrorsA_ (X Y Z : Int) (f g h fn gn hn : Nat) (T S : Int → Int → Int) (U0 U1 U2 : Int → Int) (w : World) (PA : Int → Int → Nat → Nat → Nat → Int → Prop) (PF : Int → Nat → Prop) (PMi : Int → Int → Prop) (as9 : ∀ op d x y z Z, PA op d x y z Z → 0 ≤ op ∧ op < 5 → -1 ≤ d → d ≤ 1 → ∀ W : World, Kp w W → Calls Tryz.prog 5 #[.int .i64 op, .int .i64 d, .float .f64 x, .float .f64 y, .float .f64 z] W fun e w' => e = .returned (.int .u64 Z) ∧ Kp W w') (fl9 : ∀ X Y, PF X Y → ∀ W : World, Calls Tryz.prog 4 #[.int .u64 X] W fun e w' => e = .returned (.float .f64 Y) ∧ w' = W) (mi9 : ∀ X Y, PMi X Y → ∀ W : World, Calls Tryz.prog 6 #[.int .u64 X] W fun e w' => e = .returned (.int .u64 Y) ∧ w' = W) (li9 : ∀ W : World, Kp w W → Calls Tryz.prog 7 #[] W fun e w' => e = .returned (.bool true) ∧ Kp W w') (ng0 : ∀ w : World, (Op.unary .neg (.float .f64 f)).run Tryz.prog w = .ok (.float .f64 fn) w) (ng1 : ∀ w : World, (Op.unary .neg (.float .f64 g)).run Tryz.prog w = .ok (.float .f64 gn) w) (ng2 : ∀ w : World, (Op.unary .neg (.float .f64 h)).run Tryz.prog w = .ok (.float .f64 hn) w) (fT : ∀ op d, PA op d f g h (T op d)) (fS : ∀ op d, op < 2 → PA op d fn gn h (S op d)) (fR : ∀ op d, ¬ op < 2 → PA op d fn g hn (S op d)) (fM : ∀ op d d', 0 ≤ op ∧ op < 5 → d' = -d → PMi (S op d') (T op d)) (a1 : ∀ d, PA 0 d f g 0 (U0 d)) (a2 : ∀ d, PA 0 d g f 0 (U0 d)) (a3 : ∀ d, PA 2 d f g 0 (U2 d)) (a4 : ∀ d, PA 2 d g f 0 (U2 d)) (a5 : ∀ d, PA 4 d g f h (T 4 d)) (a6 : ∀ d, PA 1 d f g 0 (U1 d)) (a7 : ∀ d, PA 0 d f gn 0 (U1 d)) (p0 : PF X f) (p1 : PF Y g) (p2 : PF Z h) : Calls Tryz.prog 3 #[.agg #[.int .u64 X, .int .u64 Y, .int .u64 Z]] w fun e w' => e = .returned (.bool true) ∧ Kp w w' := by
  go_enter Tryz.func3, Tryz.ntmps3
  have kW : Kp w (w.alloc (.cells #[.int .u64 X, .int .u64 Y, .int .u64 Z] 23)) := (Kp.refl w).alloc _
  go_upto_region 5 with (first | (go_at_call 4; refine (fl9 _ _ (by with_reducible first | exact p0 | exact p1 | exact p2) _).mono ?_; rintro e wn ⟨rfl, hw9⟩; obtain rfl := hw9.symm; clear hw9))
  generalize w.alloc (.cells #[.int .u64 X, .int .u64 Y, .int .u64 Z] 23) = W0 at kW ⊢
  go_loopw [6] (fun s6 wr => (s6 = .int .i64 (-1) ∨ s6 = .int .i64 0 ∨ s6 = .int .i64 1 ∨ s6 = .int .i64 2) ∧ Kp w wr) (fun s6 _ => (2 - intOf s6).toNat)
  case atStart => exact ⟨Or.inl rfl, kW⟩
  case round =>
    obtain ⟨hk, kW⟩ := hrel
    rcases hk with hk | hk | hk | hk
    · subst hk
      go_upto_region 8 with fail
      go_loopw [7] (fun s7 wr => (s7 = .int .i64 0 ∨ s7 = .int .i64 1 ∨ s7 = .int .i64 2 ∨ s7 = .int .i64 3 ∨ s7 = .int .i64 4 ∨ s7 = .int .i64 5) ∧ Kp w wr) (fun s7 _ => (5 - intOf s7).toNat)
      case atStart => exact ⟨Or.inl rfl, kW⟩
      case round =>
        obtain ⟨hk2, kW⟩ := hrel
        rcases hk2 with hk2 | hk2 | hk2 | hk2 | hk2 | hk2
        · subst hk2
          have q1 := fT 0 (-1); have q2 := fS 0 1 (by decide); have q3 := fM 0 (-1) 1 (by decide) (by decide)
          go_wp2_with (first | (go_at_call 5; refine (as9 _ _ _ _ _ _ (by with_reducible first | exact q1 | exact q2) (by decide) (by decide) (by decide) _ kW).mono ?_; rintro e wn ⟨rfl, gn9⟩; replace kW := Kp.trans kW gn9; clear gn9) | (go_at_call 6; refine (mi9 _ _ (by with_reducible exact q3) _).mono ?_; rintro e wn ⟨rfl, hw9⟩; obtain rfl := hw9.symm; clear hw9))
          refine ⟨⟨Or.inr (Or.inl (by go_num)), kW⟩, by simp [intOf]⟩
        · subst hk2
          have q1 := fT 1 (-1); have q2 := fS 1 1 (by decide); have q3 := fM 1 (-1) 1 (by decide) (by decide)
          go_wp2_with (first | (go_at_call 5; refine (as9 _ _ _ _ _ _ (by with_reducible first | exact q1 | exact q2) (by decide) (by decide) (by decide) _ kW).mono ?_; rintro e wn ⟨rfl, gn9⟩; replace kW := Kp.trans kW gn9; clear gn9) | (go_at_call 6; refine (mi9 _ _ (by with_reducible exact q3) _).mono ?_; rintro e wn ⟨rfl, hw9⟩; obtain rfl := hw9.symm; clear hw9))
          refine ⟨⟨Or.inr (Or.inr (Or.inl (by go_num))), kW⟩, by simp [intOf]⟩
        · subst hk2
          have q1 := fT 2 (-1); have q2 := fR 2 1 (by decide); have q3 := fM 2 (-1) 1 (by decide) (by decide)
          go_wp2_with (first | (go_at_call 5; refine (as9 _ _ _ _ _ _ (by with_reducible first | exact q1 | exact q2) (by decide) (by decide) (by decide) _ kW).mono ?_; rintro e wn ⟨rfl, gn9⟩; replace kW := Kp.trans kW gn9; clear gn9) | (go_at_call 6; refine (mi9 _ _ (by with_reducible exact q3) _).mono ?_; rintro e wn ⟨rfl, hw9⟩; obtain rfl := hw9.symm; clear hw9))
          refine ⟨⟨Or.inr (Or.inr (Or.inr (Or.inl (by go_num)))), kW⟩, by simp [intOf]⟩
        · subst hk2
          have q1 := fT 3 (-1); have q2 := fR 3 1 (by decide); have q3 := fM 3 (-1) 1 (by decide) (by decide)
          go_wp2_with (first | (go_at_call 5; refine (as9 _ _ _ _ _ _ (by with_reducible first | exact q1 | exact q2) (by decide) (by decide) (by decide) _ kW).mono ?_; rintro e wn ⟨rfl, gn9⟩; replace kW := Kp.trans kW gn9; clear gn9) | (go_at_call 6; refine (mi9 _ _ (by with_reducible exact q3) _).mono ?_; rintro e wn ⟨rfl, hw9⟩; obtain rfl := hw9.symm; clear hw9))
          refine ⟨⟨Or.inr (Or.inr (Or.inr (Or.inr (Or.inl (by go_num))))), kW⟩, by simp [intOf]⟩
        · subst hk2
          have q1 := fT 4 (-1); have q2 := fR 4 1 (by decide); have q3 := fM 4 (-1) 1 (by decide) (by decide)
          go_wp2_with (first | (go_at_call 5; refine (as9 _ _ _ _ _ _ (by with_reducible first | exact q1 | exact q2) (by decide) (by decide) (by decide) _ kW).mono ?_; rintro e wn ⟨rfl, gn9⟩; replace kW := Kp.trans kW gn9; clear gn9) | (go_at_call 6; refine (mi9 _ _ (by with_reducible exact q3) _).mono ?_; rintro e wn ⟨rfl, hw9⟩; obtain rfl := hw9.symm; clear hw9))
          refine ⟨⟨Or.inr (Or.inr (Or.inr (Or.inr (Or.inr ((by go_num)))))), kW⟩, by simp [intOf]⟩
        · subst hk2
          have q1 := a1 (-1); have q2 := a2 (-1); have q3 := a3 (-1); have q4 := a4 (-1); have q5 := a5 (-1); have q6 := a6 (-1); have q7 := a7 (-1); have q8 := fT 4 (-1)
          go_wp2_with (first | (go_at_call 5; refine (as9 _ _ _ _ _ _ (by with_reducible first | exact q1 | exact q2 | exact q3 | exact q4 | exact q5 | exact q6 | exact q7 | exact q8) (by decide) (by decide) (by decide) _ kW).mono ?_; rintro e wn ⟨rfl, gn9⟩; replace kW := Kp.trans kW gn9; clear gn9))
          refine ⟨⟨Or.inr (Or.inl (by go_num)), kW⟩, by simp [intOf]⟩
    · subst hk
      go_upto_region 8 with fail
      go_loopw [7] (fun s7 wr => (s7 = .int .i64 0 ∨ s7 = .int .i64 1 ∨ s7 = .int .i64 2 ∨ s7 = .int .i64 3 ∨ s7 = .int .i64 4 ∨ s7 = .int .i64 5) ∧ Kp w wr) (fun s7 _ => (5 - intOf s7).toNat)
      case atStart => exact ⟨Or.inl rfl, kW⟩
      case round =>
        obtain ⟨hk2, kW⟩ := hrel
        rcases hk2 with hk2 | hk2 | hk2 | hk2 | hk2 | hk2
        · subst hk2
          have q1 := fT 0 0; have q2 := fS 0 0 (by decide); have q3 := fM 0 0 0 (by decide) (by decide)
          go_wp2_with (first | (go_at_call 5; refine (as9 _ _ _ _ _ _ (by with_reducible first | exact q1 | exact q2) (by decide) (by decide) (by decide) _ kW).mono ?_; rintro e wn ⟨rfl, gn9⟩; replace kW := Kp.trans kW gn9; clear gn9) | (go_at_call 6; refine (mi9 _ _ (by with_reducible exact q3) _).mono ?_; rintro e wn ⟨rfl, hw9⟩; obtain rfl := hw9.symm; clear hw9))
          refine ⟨⟨Or.inr (Or.inl (by go_num)), kW⟩, by simp [intOf]⟩
        · subst hk2
          have q1 := fT 1 0; have q2 := fS 1 0 (by decide); have q3 := fM 1 0 0 (by decide) (by decide)
          go_wp2_with (first | (go_at_call 5; refine (as9 _ _ _ _ _ _ (by with_reducible first | exact q1 | exact q2) (by decide) (by decide) (by decide) _ kW).mono ?_; rintro e wn ⟨rfl, gn9⟩; replace kW := Kp.trans kW gn9; clear gn9) | (go_at_call 6; refine (mi9 _ _ (by with_reducible exact q3) _).mono ?_; rintro e wn ⟨rfl, hw9⟩; obtain rfl := hw9.symm; clear hw9))
          refine ⟨⟨Or.inr (Or.inr (Or.inl (by go_num))), kW⟩, by simp [intOf]⟩
        · subst hk2
          have q1 := fT 2 0; have q2 := fR 2 0 (by decide); have q3 := fM 2 0 0 (by decide) (by decide)
          go_wp2_with (first | (go_at_call 5; refine (as9 _ _ _ _ _ _ (by with_reducible first | exact q1 | exact q2) (by decide) (by decide) (by decide) _ kW).mono ?_; rintro e wn ⟨rfl, gn9⟩; replace kW := Kp.trans kW gn9; clear gn9) | (go_at_call 6; refine (mi9 _ _ (by with_reducible exact q3) _).mono ?_; rintro e wn ⟨rfl, hw9⟩; obtain rfl := hw9.symm; clear hw9))
          refine ⟨⟨Or.inr (Or.inr (Or.inr (Or.inl (by go_num)))), kW⟩, by simp [intOf]⟩
        · subst hk2
          have q1 := fT 3 0; have q2 := fR 3 0 (by decide); have q3 := fM 3 0 0 (by decide) (by decide)
          go_wp2_with (first | (go_at_call 5; refine (as9 _ _ _ _ _ _ (by with_reducible first | exact q1 | exact q2) (by decide) (by decide) (by decide) _ kW).mono ?_; rintro e wn ⟨rfl, gn9⟩; replace kW := Kp.trans kW gn9; clear gn9) | (go_at_call 6; refine (mi9 _ _ (by with_reducible exact q3) _).mono ?_; rintro e wn ⟨rfl, hw9⟩; obtain rfl := hw9.symm; clear hw9))
          refine ⟨⟨Or.inr (Or.inr (Or.inr (Or.inr (Or.inl (by go_num))))), kW⟩, by simp [intOf]⟩
        · subst hk2
          have q1 := fT 4 0; have q2 := fR 4 0 (by decide); have q3 := fM 4 0 0 (by decide) (by decide)
          go_wp2_with (first | (go_at_call 5; refine (as9 _ _ _ _ _ _ (by with_reducible first | exact q1 | exact q2) (by decide) (by decide) (by decide) _ kW).mono ?_; rintro e wn ⟨rfl, gn9⟩; replace kW := Kp.trans kW gn9; clear gn9) | (go_at_call 6; refine (mi9 _ _ (by with_reducible exact q3) _).mono ?_; rintro e wn ⟨rfl, hw9⟩; obtain rfl := hw9.symm; clear hw9))
          refine ⟨⟨Or.inr (Or.inr (Or.inr (Or.inr (Or.inr ((by go_num)))))), kW⟩, by simp [intOf]⟩
        · subst hk2
          have q1 := a1 0; have q2 := a2 0; have q3 := a3 0; have q4 := a4 0; have q5 := a5 0; have q6 := a6 0; have q7 := a7 0; have q8 := fT 4 0
          go_wp2_with (first | (go_at_call 5; refine (as9 _ _ _ _ _ _ (by with_reducible first | exact q1 | exact q2 | exact q3 | exact q4 | exact q5 | exact q6 | exact q7 | exact q8) (by decide) (by decide) (by decide) _ kW).mono ?_; rintro e wn ⟨rfl, gn9⟩; replace kW := Kp.trans kW gn9; clear gn9))
          refine ⟨⟨Or.inr (Or.inr (Or.inl (by go_num))), kW⟩, by simp [intOf]⟩
    · subst hk
      go_upto_region 8 with fail
      go_loopw [7] (fun s7 wr => (s7 = .int .i64 0 ∨ s7 = .int .i64 1 ∨ s7 = .int .i64 2 ∨ s7 = .int .i64 3 ∨ s7 = .int .i64 4 ∨ s7 = .int .i64 5) ∧ Kp w wr) (fun s7 _ => (5 - intOf s7).toNat)
      case atStart => exact ⟨Or.inl rfl, kW⟩
      case round =>
        obtain ⟨hk2, kW⟩ := hrel
        rcases hk2 with hk2 | hk2 | hk2 | hk2 | hk2 | hk2
        · subst hk2
          have q1 := fT 0 1; have q2 := fS 0 (-1) (by decide); have q3 := fM 0 1 (-1) (by decide) (by decide)
          go_wp2_with (first | (go_at_call 5; refine (as9 _ _ _ _ _ _ (by with_reducible first | exact q1 | exact q2) (by decide) (by decide) (by decide) _ kW).mono ?_; rintro e wn ⟨rfl, gn9⟩; replace kW := Kp.trans kW gn9; clear gn9) | (go_at_call 6; refine (mi9 _ _ (by with_reducible exact q3) _).mono ?_; rintro e wn ⟨rfl, hw9⟩; obtain rfl := hw9.symm; clear hw9))
          refine ⟨⟨Or.inr (Or.inl (by go_num)), kW⟩, by simp [intOf]⟩
        · subst hk2
          have q1 := fT 1 1; have q2 := fS 1 (-1) (by decide); have q3 := fM 1 1 (-1) (by decide) (by decide)
          go_wp2_with (first | (go_at_call 5; refine (as9 _ _ _ _ _ _ (by with_reducible first | exact q1 | exact q2) (by decide) (by decide) (by decide) _ kW).mono ?_; rintro e wn ⟨rfl, gn9⟩; replace kW := Kp.trans kW gn9; clear gn9) | (go_at_call 6; refine (mi9 _ _ (by with_reducible exact q3) _).mono ?_; rintro e wn ⟨rfl, hw9⟩; obtain rfl := hw9.symm; clear hw9))
          refine ⟨⟨Or.inr (Or.inr (Or.inl (by go_num))), kW⟩, by simp [intOf]⟩
        · subst hk2
          have q1 := fT 2 1; have q2 := fR 2 (-1) (by decide); have q3 := fM 2 1 (-1) (by decide) (by decide)
          go_wp2_with (first | (go_at_call 5; refine (as9 _ _ _ _ _ _ (by with_reducible first | exact q1 | exact q2) (by decide) (by decide) (by decide) _ kW).mono ?_; rintro e wn ⟨rfl, gn9⟩; replace kW := Kp.trans kW gn9; clear gn9) | (go_at_call 6; refine (mi9 _ _ (by with_reducible exact q3) _).mono ?_; rintro e wn ⟨rfl, hw9⟩; obtain rfl := hw9.symm; clear hw9))
          refine ⟨⟨Or.inr (Or.inr (Or.inr (Or.inl (by go_num)))), kW⟩, by simp [intOf]⟩
        · subst hk2
          have q1 := fT 3 1; have q2 := fR 3 (-1) (by decide); have q3 := fM 3 1 (-1) (by decide) (by decide)
          go_wp2_with (first | (go_at_call 5; refine (as9 _ _ _ _ _ _ (by with_reducible first | exact q1 | exact q2) (by decide) (by decide) (by decide) _ kW).mono ?_; rintro e wn ⟨rfl, gn9⟩; replace kW := Kp.trans kW gn9; clear gn9) | (go_at_call 6; refine (mi9 _ _ (by with_reducible exact q3) _).mono ?_; rintro e wn ⟨rfl, hw9⟩; obtain rfl := hw9.symm; clear hw9))
          refine ⟨⟨Or.inr (Or.inr (Or.inr (Or.inr (Or.inl (by go_num))))), kW⟩, by simp [intOf]⟩
        · subst hk2
          have q1 := fT 4 1; have q2 := fR 4 (-1) (by decide); have q3 := fM 4 1 (-1) (by decide) (by decide)
          go_wp2_with (first | (go_at_call 5; refine (as9 _ _ _ _ _ _ (by with_reducible first | exact q1 | exact q2) (by decide) (by decide) (by decide) _ kW).mono ?_; rintro e wn ⟨rfl, gn9⟩; replace kW := Kp.trans kW gn9; clear gn9) | (go_at_call 6; refine (mi9 _ _ (by with_reducible exact q3) _).mono ?_; rintro e wn ⟨rfl, hw9⟩; obtain rfl := hw9.symm; clear hw9))
          refine ⟨⟨Or.inr (Or.inr (Or.inr (Or.inr (Or.inr ((by go_num)))))), kW⟩, by simp [intOf]⟩
        · subst hk2
          have q1 := a1 1; have q2 := a2 1; have q3 := a3 1; have q4 := a4 1; have q5 := a5 1; have q6 := a6 1; have q7 := a7 1; have q8 := fT 4 1
          go_wp2_with (first | (go_at_call 5; refine (as9 _ _ _ _ _ _ (by with_reducible first | exact q1 | exact q2 | exact q3 | exact q4 | exact q5 | exact q6 | exact q7 | exact q8) (by decide) (by decide) (by decide) _ kW).mono ?_; rintro e wn ⟨rfl, gn9⟩; replace kW := Kp.trans kW gn9; clear gn9))
          refine ⟨⟨Or.inr (Or.inr (Or.inr ((by go_num)))), kW⟩, by simp [intOf]⟩
    · subst hk
      go_wp2_with (first | (go_at_call 7; refine (li9 _ kW).mono ?_; rintro e wn ⟨rfl, gn9⟩; replace kW := Kp.trans kW gn9; clear gn9))
      exact bodyPost_ret (v := .bool true) (by simp [results, Tryz.results3, go_sem]) rfl ⟨rfl, kW⟩
end Go.Proofs.YtgiffpohngaonaaGreatDoor
