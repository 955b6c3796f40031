import Derived.Test.YthmeefigiekneaaGreatDoorProg
import Derived.Test.YthmeefigiekneaaGreatDoorKXA0
import Derived.Test.YthmeefigiekneaaGreatDoorKXQF
import Derived.Test.YthmeefigiekneaaGreatDoorKQA
import Derived.Test.YthmeefigiekneaaGreatDoorKXQU
import Derived.Test.YthmeefigiekneaaGreatDoorKXEA
import Derived.Test.YthmeefigiekneaaGreatDoorKXNR
import Derived.Test.YthmeefigiekneaaGreatDoorKXM
import Derived.Test.YthmeefigiekneaaGreatDoorKXY
import Derived.Test.YthmeefigiekneaaGreatDoorKQP
import Derived.Test.YthmeefigiekneaaGreatDoorKQB
import Derived.Test.YthmeefigiekneaaGreatDoorKQBT
import Derived.Test.YthmeefigiekneaaGreatDoorKQJd
import Derived.Test.YthmeefigiekneaaGreatDoorKXED
import Derived.Test.YthmeefigiekneaaGreatDoorKMR7Q
import Derived.Test.YthmeefigiekneaaGreatDoorKXMR
import Derived.Test.YthmeefigiekneaaGreatDoorKXM3
import Derived.Test.YthmeefigiekneaaGreatDoorKXO
import Derived.Test.YthmeefigiekneaaGreatDoorKXO3
import Derived.Test.YthmeefigiekneaaGreatDoorKXT
import Derived.Test.YthmeefigiekneaaGreatDoorKXLX
import Derived.Test.YthmeefigiekneaaGreatDoorKRX
import Derived.Test.YthmeefigiekneaaGreatDoorKXRL
import Derived.Test.YthmeefigiekneaaGreatDoorKXCO
import Derived.Test.YthmeefigiekneaaGreatDoorKLN
import Derived.Test.YthmeefigiekneaaGreatDoorKXRN
import Derived.Test.YthmeefigiekneaaGreatDoorKXW4
import Derived.Test.YthmeefigiekneaaGreatDoorKXBY
import Derived.Test.YthmeefigiekneaaGreatDoorKXTZ
import Derived.Test.YthmeefigiekneaaGreatDoorKXG1
import Derived.Test.YthmeefigiekneaaGreatDoorKXH2Q
import Derived.Test.YthmeefigiekneaaGreatDoorKXG4
import Derived.Test.YthmeefigiekneaaGreatDoorKXS1
import Derived.Test.YthmeefigiekneaaGreatDoorKXS6
import Derived.Test.YthmeefigiekneaaGreatDoorKXN
import Derived.Test.YthmeefigiekneaaGreatDoorKXNS
import Derived.Test.YthmeefigiekneaaGreatDoorKXSL
import Derived.Test.YthmeefigiekneaaGreatDoorKXKA
import Derived.WalkKit
import Derived.ProofKit
import Derived.RowKit3
import Derived.WalkSpells
import Derived.StillTactics
import Derived.Deep.QuietTactic
import Derived.BigQuiet
import Derived.Below
import Derived.Deep.OwnRows
import Derived.OwnWalk
import Derived.Laws.BitsAllLaws
import Derived.Laws.Slices
import Derived.Laws.Bits64b
import Derived.Laws.FloatArith
import Derived.Deep.RegionHeld3
import Derived.Deep.CutRange
import Derived.Deep.DeepCutAuto
namespace Go.Proofs.YthmeefigiekneaaGreatDoor
open Go.RowKit
set_option linter.unusedVariables false
set_option maxRecDepth 20000 in
set_option maxHeartbeats 4000000 in
theorem canE1_ (a b c d L1 H1 L2 H2 : Nat) (hx : ∀ w : World, Calls Tryz.prog 11 #[.agg #[.float .f64 a, .float .f64 b]] w fun e w' => e = .returned (.agg #[.float .f64 L1, .float .f64 H1]) ∧ Kp w w') (hy : ∀ w : World, Calls Tryz.prog 11 #[.agg #[.float .f64 c, .float .f64 d]] w fun e w' => e = .returned (.agg #[.float .f64 L2, .float .f64 H2]) ∧ Kp w w') (hE : ∀ w : World, Calls Tryz.prog 14 #[] w fun e w' => e = .returned (.agg #[.float .f64 9218868437227405312, .float .f64 18442240474082181120]) ∧ Kp w w') (hN : ∀ w : World, Calls Tryz.prog 18 #[] w fun e w' => e = .returned (.agg #[.float .f64 18442240474082181120, .float .f64 9218868437227405312]) ∧ Kp w w') (he1 : ∀ w : World, Calls Tryz.prog 12 #[.agg #[.float .f64 L1, .float .f64 H1]] w fun e w' => e = .returned (.bool true) ∧ Kp w w') (he2 : ∀ w : World, Calls Tryz.prog 12 #[.agg #[.float .f64 L2, .float .f64 H2]] w fun e w' => e = .returned (.bool true) ∧ Kp w w') (w : World) : Calls Tryz.prog 5 #[.agg #[.float .f64 a, .float .f64 b], .agg #[.float .f64 c, .float .f64 d]] w fun e w' => e = .returned (.agg #[.float .f64 9218868437227405312, .float .f64 18442240474082181120]) ∧ Kp w w' := by
    go_enter Tryz.func5, Tryz.ntmps5
    go_upto_region 1 with fail
    go_cut [] (fun wx => H6 wx w.heap.size (.float .f64 L1) (.float .f64 H1) (.float .f64 L2) (.float .f64 H2) (.float .f64 0) (.float .f64 0) ∧ Kp w wx)
    case first =>
      go_region_with (first | (go_at_call_of 11 (Value.agg #[.float .f64 a, .float .f64 b]); refine (hx _).mono ?_; rintro e wx ⟨rfl, gx⟩; first | (have kx := Kp.trans ky gx; have sx := H6.keep sy gx; obtain ⟨⟨p0, p1, p2, p3⟩, ⟨p4, p5, p6, p7⟩, ⟨p8, p9, pa, pb⟩⟩ := id sx) | (have kx : Kp w wx := Kp.trans ((((Kp.refl w).alloc _).alloc _).alloc _).drew gx; have sx := H6.keep (H6.new w (.float .f64 a) (.float .f64 b) (.float .f64 c) (.float .f64 d) (.float .f64 0) (.float .f64 0) 28 28 28) (Kp.trans (Kp.drew (Kp.refl _)) gx); obtain ⟨⟨p0, p1, p2, p3⟩, ⟨p4, p5, p6, p7⟩, ⟨p8, p9, pa, pb⟩⟩ := id sx)) | (go_at_call_of 11 (Value.agg #[.float .f64 c, .float .f64 d]); refine (hy _).mono ?_; rintro e wy ⟨rfl, gy⟩; first | (have ky := Kp.trans kx gy; have sy := H6.keep sx gy; obtain ⟨⟨p0, p1, p2, p3⟩, ⟨p4, p5, p6, p7⟩, ⟨p8, p9, pa, pb⟩⟩ := id sy) | (have ky : Kp w wy := Kp.trans ((((Kp.refl w).alloc _).alloc _).alloc _).drew gy; have sy := H6.keep (H6.new w (.float .f64 a) (.float .f64 b) (.float .f64 c) (.float .f64 d) (.float .f64 0) (.float .f64 0) 28 28 28) (Kp.trans (Kp.drew (Kp.refl _)) gy); obtain ⟨⟨p0, p1, p2, p3⟩, ⟨p4, p5, p6, p7⟩, ⟨p8, p9, pa, pb⟩⟩ := id sy)))
      all_goals (
        go_wp2_with fail
        go_meet
        first | (exact ⟨H6.put (id sy : H6 wy w.heap.size (.float .f64 a) (.float .f64 b) (.float .f64 c) (.float .f64 d) (.float .f64 0) (.float .f64 0)) (.float .f64 L1) (.float .f64 H1) (.float .f64 L2) (.float .f64 H2), (((ky.setCell (Nat.le_refl _) _).setCell (Nat.le_refl _) _).setCell (Nat.le_succ _) _).setCell (Nat.le_succ _) _⟩) | (exact ⟨H6.put (id sx : H6 wx w.heap.size (.float .f64 a) (.float .f64 b) (.float .f64 c) (.float .f64 d) (.float .f64 0) (.float .f64 0)) (.float .f64 L1) (.float .f64 H1) (.float .f64 L2) (.float .f64 H2), (((kx.setCell (Nat.le_refl _) _).setCell (Nat.le_refl _) _).setCell (Nat.le_succ _) _).setCell (Nat.le_succ _) _⟩))
    case rest =>
    obtain ⟨sw, kw⟩ := hcut
    obtain ⟨⟨p0, p1, p2, p3⟩, ⟨p4, p5, p6, p7⟩, ⟨p8, p9, pa, pb⟩⟩ := id sw
    go_wp2_with (first | (go_at_call_of 12 (Value.agg #[.float .f64 L1, .float .f64 H1]); refine (he1 _).mono ?_; rintro e wv ⟨rfl, gv⟩; replace kw := Kp.trans kw gv; replace sw := H6.keep sw gv; clear gv p0 p1 p2 p3 p4 p5 p6 p7 p8 p9 pa pb; obtain ⟨⟨p0, p1, p2, p3⟩, ⟨p4, p5, p6, p7⟩, ⟨p8, p9, pa, pb⟩⟩ := id sw) | (go_at_call_of 12 (Value.agg #[.float .f64 L2, .float .f64 H2]); refine (he2 _).mono ?_; rintro e wv ⟨rfl, gv⟩; replace kw := Kp.trans kw gv; replace sw := H6.keep sw gv; clear gv p0 p1 p2 p3 p4 p5 p6 p7 p8 p9 pa pb; obtain ⟨⟨p0, p1, p2, p3⟩, ⟨p4, p5, p6, p7⟩, ⟨p8, p9, pa, pb⟩⟩ := id sw) | (go_at_call 14; refine (hE _).mono ?_; rintro e wv ⟨rfl, gv⟩; replace kw := Kp.trans kw gv; replace sw := H6.keep sw gv; clear gv p0 p1 p2 p3 p4 p5 p6 p7 p8 p9 pa pb; obtain ⟨⟨p0, p1, p2, p3⟩, ⟨p4, p5, p6, p7⟩, ⟨p8, p9, pa, pb⟩⟩ := id sw))
    exact bodyPost_ret (v := .agg #[.float .f64 9218868437227405312, .float .f64 18442240474082181120]) (by simp [results, Tryz.results5, go_sem, p8, p9]) rfl ⟨rfl, (kw.setCell (by simp <;> omega) _).setCell (by simp <;> omega) _⟩
set_option maxRecDepth 20000 in
set_option maxHeartbeats 4000000 in
theorem canE2_ (a b c d L1 H1 L2 H2 : Nat) (hx : ∀ w : World, Calls Tryz.prog 11 #[.agg #[.float .f64 a, .float .f64 b]] w fun e w' => e = .returned (.agg #[.float .f64 L1, .float .f64 H1]) ∧ Kp w w') (hy : ∀ w : World, Calls Tryz.prog 11 #[.agg #[.float .f64 c, .float .f64 d]] w fun e w' => e = .returned (.agg #[.float .f64 L2, .float .f64 H2]) ∧ Kp w w') (hE : ∀ w : World, Calls Tryz.prog 14 #[] w fun e w' => e = .returned (.agg #[.float .f64 9218868437227405312, .float .f64 18442240474082181120]) ∧ Kp w w') (hN : ∀ w : World, Calls Tryz.prog 18 #[] w fun e w' => e = .returned (.agg #[.float .f64 18442240474082181120, .float .f64 9218868437227405312]) ∧ Kp w w') (he1 : ∀ w : World, Calls Tryz.prog 12 #[.agg #[.float .f64 L1, .float .f64 H1]] w fun e w' => e = .returned (.bool true) ∧ Kp w w') (he2 : ∀ w : World, Calls Tryz.prog 12 #[.agg #[.float .f64 L2, .float .f64 H2]] w fun e w' => e = .returned (.bool false) ∧ Kp w w') (hc2 : ∀ w : World, Calls Tryz.prog 13 #[.agg #[.float .f64 L2, .float .f64 H2]] w fun e w' => e = .returned (.bool true) ∧ Kp w w') (w : World) : Calls Tryz.prog 5 #[.agg #[.float .f64 a, .float .f64 b], .agg #[.float .f64 c, .float .f64 d]] w fun e w' => e = .returned (.agg #[.float .f64 9218868437227405312, .float .f64 18442240474082181120]) ∧ Kp w w' := by
    go_enter Tryz.func5, Tryz.ntmps5
    go_upto_region 1 with fail
    go_cut [] (fun wx => H6 wx w.heap.size (.float .f64 L1) (.float .f64 H1) (.float .f64 L2) (.float .f64 H2) (.float .f64 0) (.float .f64 0) ∧ Kp w wx)
    case first =>
      go_region_with (first | (go_at_call_of 11 (Value.agg #[.float .f64 a, .float .f64 b]); refine (hx _).mono ?_; rintro e wx ⟨rfl, gx⟩; first | (have kx := Kp.trans ky gx; have sx := H6.keep sy gx; obtain ⟨⟨p0, p1, p2, p3⟩, ⟨p4, p5, p6, p7⟩, ⟨p8, p9, pa, pb⟩⟩ := id sx) | (have kx : Kp w wx := Kp.trans ((((Kp.refl w).alloc _).alloc _).alloc _).drew gx; have sx := H6.keep (H6.new w (.float .f64 a) (.float .f64 b) (.float .f64 c) (.float .f64 d) (.float .f64 0) (.float .f64 0) 28 28 28) (Kp.trans (Kp.drew (Kp.refl _)) gx); obtain ⟨⟨p0, p1, p2, p3⟩, ⟨p4, p5, p6, p7⟩, ⟨p8, p9, pa, pb⟩⟩ := id sx)) | (go_at_call_of 11 (Value.agg #[.float .f64 c, .float .f64 d]); refine (hy _).mono ?_; rintro e wy ⟨rfl, gy⟩; first | (have ky := Kp.trans kx gy; have sy := H6.keep sx gy; obtain ⟨⟨p0, p1, p2, p3⟩, ⟨p4, p5, p6, p7⟩, ⟨p8, p9, pa, pb⟩⟩ := id sy) | (have ky : Kp w wy := Kp.trans ((((Kp.refl w).alloc _).alloc _).alloc _).drew gy; have sy := H6.keep (H6.new w (.float .f64 a) (.float .f64 b) (.float .f64 c) (.float .f64 d) (.float .f64 0) (.float .f64 0) 28 28 28) (Kp.trans (Kp.drew (Kp.refl _)) gy); obtain ⟨⟨p0, p1, p2, p3⟩, ⟨p4, p5, p6, p7⟩, ⟨p8, p9, pa, pb⟩⟩ := id sy)))
      all_goals (
        go_wp2_with fail
        go_meet
        first | (exact ⟨H6.put (id sy : H6 wy w.heap.size (.float .f64 a) (.float .f64 b) (.float .f64 c) (.float .f64 d) (.float .f64 0) (.float .f64 0)) (.float .f64 L1) (.float .f64 H1) (.float .f64 L2) (.float .f64 H2), (((ky.setCell (Nat.le_refl _) _).setCell (Nat.le_refl _) _).setCell (Nat.le_succ _) _).setCell (Nat.le_succ _) _⟩) | (exact ⟨H6.put (id sx : H6 wx w.heap.size (.float .f64 a) (.float .f64 b) (.float .f64 c) (.float .f64 d) (.float .f64 0) (.float .f64 0)) (.float .f64 L1) (.float .f64 H1) (.float .f64 L2) (.float .f64 H2), (((kx.setCell (Nat.le_refl _) _).setCell (Nat.le_refl _) _).setCell (Nat.le_succ _) _).setCell (Nat.le_succ _) _⟩))
    case rest =>
    obtain ⟨sw, kw⟩ := hcut
    obtain ⟨⟨p0, p1, p2, p3⟩, ⟨p4, p5, p6, p7⟩, ⟨p8, p9, pa, pb⟩⟩ := id sw
    go_wp2_with (first | (go_at_call_of 12 (Value.agg #[.float .f64 L1, .float .f64 H1]); refine (he1 _).mono ?_; rintro e wv ⟨rfl, gv⟩; replace kw := Kp.trans kw gv; replace sw := H6.keep sw gv; clear gv p0 p1 p2 p3 p4 p5 p6 p7 p8 p9 pa pb; obtain ⟨⟨p0, p1, p2, p3⟩, ⟨p4, p5, p6, p7⟩, ⟨p8, p9, pa, pb⟩⟩ := id sw) | (go_at_call_of 12 (Value.agg #[.float .f64 L2, .float .f64 H2]); refine (he2 _).mono ?_; rintro e wv ⟨rfl, gv⟩; replace kw := Kp.trans kw gv; replace sw := H6.keep sw gv; clear gv p0 p1 p2 p3 p4 p5 p6 p7 p8 p9 pa pb; obtain ⟨⟨p0, p1, p2, p3⟩, ⟨p4, p5, p6, p7⟩, ⟨p8, p9, pa, pb⟩⟩ := id sw) | (go_at_call_of 13 (Value.agg #[.float .f64 L2, .float .f64 H2]); refine (hc2 _).mono ?_; rintro e wv ⟨rfl, gv⟩; replace kw := Kp.trans kw gv; replace sw := H6.keep sw gv; clear gv p0 p1 p2 p3 p4 p5 p6 p7 p8 p9 pa pb; obtain ⟨⟨p0, p1, p2, p3⟩, ⟨p4, p5, p6, p7⟩, ⟨p8, p9, pa, pb⟩⟩ := id sw) | (go_at_call 14; refine (hE _).mono ?_; rintro e wv ⟨rfl, gv⟩; replace kw := Kp.trans kw gv; replace sw := H6.keep sw gv; clear gv p0 p1 p2 p3 p4 p5 p6 p7 p8 p9 pa pb; obtain ⟨⟨p0, p1, p2, p3⟩, ⟨p4, p5, p6, p7⟩, ⟨p8, p9, pa, pb⟩⟩ := id sw))
    exact bodyPost_ret (v := .agg #[.float .f64 9218868437227405312, .float .f64 18442240474082181120]) (by simp [results, Tryz.results5, go_sem, p8, p9]) rfl ⟨rfl, (kw.setCell (by simp <;> omega) _).setCell (by simp <;> omega) _⟩
set_option maxRecDepth 20000 in
set_option maxHeartbeats 4000000 in
theorem canN1_ (a b c d L1 H1 L2 H2 : Nat) (hx : ∀ w : World, Calls Tryz.prog 11 #[.agg #[.float .f64 a, .float .f64 b]] w fun e w' => e = .returned (.agg #[.float .f64 L1, .float .f64 H1]) ∧ Kp w w') (hy : ∀ w : World, Calls Tryz.prog 11 #[.agg #[.float .f64 c, .float .f64 d]] w fun e w' => e = .returned (.agg #[.float .f64 L2, .float .f64 H2]) ∧ Kp w w') (hE : ∀ w : World, Calls Tryz.prog 14 #[] w fun e w' => e = .returned (.agg #[.float .f64 9218868437227405312, .float .f64 18442240474082181120]) ∧ Kp w w') (hN : ∀ w : World, Calls Tryz.prog 18 #[] w fun e w' => e = .returned (.agg #[.float .f64 18442240474082181120, .float .f64 9218868437227405312]) ∧ Kp w w') (he1 : ∀ w : World, Calls Tryz.prog 12 #[.agg #[.float .f64 L1, .float .f64 H1]] w fun e w' => e = .returned (.bool true) ∧ Kp w w') (he2 : ∀ w : World, Calls Tryz.prog 12 #[.agg #[.float .f64 L2, .float .f64 H2]] w fun e w' => e = .returned (.bool false) ∧ Kp w w') (hc2 : ∀ w : World, Calls Tryz.prog 13 #[.agg #[.float .f64 L2, .float .f64 H2]] w fun e w' => e = .returned (.bool false) ∧ Kp w w') (hc1 : ∀ w : World, Calls Tryz.prog 13 #[.agg #[.float .f64 L1, .float .f64 H1]] w fun e w' => e = .returned (.bool false) ∧ Kp w w') (w : World) : Calls Tryz.prog 5 #[.agg #[.float .f64 a, .float .f64 b], .agg #[.float .f64 c, .float .f64 d]] w fun e w' => e = .returned (.agg #[.float .f64 18442240474082181120, .float .f64 9218868437227405312]) ∧ Kp w w' := by
    go_enter Tryz.func5, Tryz.ntmps5
    go_upto_region 1 with fail
    go_cut [] (fun wx => H6 wx w.heap.size (.float .f64 L1) (.float .f64 H1) (.float .f64 L2) (.float .f64 H2) (.float .f64 0) (.float .f64 0) ∧ Kp w wx)
    case first =>
      go_region_with (first | (go_at_call_of 11 (Value.agg #[.float .f64 a, .float .f64 b]); refine (hx _).mono ?_; rintro e wx ⟨rfl, gx⟩; first | (have kx := Kp.trans ky gx; have sx := H6.keep sy gx; obtain ⟨⟨p0, p1, p2, p3⟩, ⟨p4, p5, p6, p7⟩, ⟨p8, p9, pa, pb⟩⟩ := id sx) | (have kx : Kp w wx := Kp.trans ((((Kp.refl w).alloc _).alloc _).alloc _).drew gx; have sx := H6.keep (H6.new w (.float .f64 a) (.float .f64 b) (.float .f64 c) (.float .f64 d) (.float .f64 0) (.float .f64 0) 28 28 28) (Kp.trans (Kp.drew (Kp.refl _)) gx); obtain ⟨⟨p0, p1, p2, p3⟩, ⟨p4, p5, p6, p7⟩, ⟨p8, p9, pa, pb⟩⟩ := id sx)) | (go_at_call_of 11 (Value.agg #[.float .f64 c, .float .f64 d]); refine (hy _).mono ?_; rintro e wy ⟨rfl, gy⟩; first | (have ky := Kp.trans kx gy; have sy := H6.keep sx gy; obtain ⟨⟨p0, p1, p2, p3⟩, ⟨p4, p5, p6, p7⟩, ⟨p8, p9, pa, pb⟩⟩ := id sy) | (have ky : Kp w wy := Kp.trans ((((Kp.refl w).alloc _).alloc _).alloc _).drew gy; have sy := H6.keep (H6.new w (.float .f64 a) (.float .f64 b) (.float .f64 c) (.float .f64 d) (.float .f64 0) (.float .f64 0) 28 28 28) (Kp.trans (Kp.drew (Kp.refl _)) gy); obtain ⟨⟨p0, p1, p2, p3⟩, ⟨p4, p5, p6, p7⟩, ⟨p8, p9, pa, pb⟩⟩ := id sy)))
      all_goals (
        go_wp2_with fail
        go_meet
        first | (exact ⟨H6.put (id sy : H6 wy w.heap.size (.float .f64 a) (.float .f64 b) (.float .f64 c) (.float .f64 d) (.float .f64 0) (.float .f64 0)) (.float .f64 L1) (.float .f64 H1) (.float .f64 L2) (.float .f64 H2), (((ky.setCell (Nat.le_refl _) _).setCell (Nat.le_refl _) _).setCell (Nat.le_succ _) _).setCell (Nat.le_succ _) _⟩) | (exact ⟨H6.put (id sx : H6 wx w.heap.size (.float .f64 a) (.float .f64 b) (.float .f64 c) (.float .f64 d) (.float .f64 0) (.float .f64 0)) (.float .f64 L1) (.float .f64 H1) (.float .f64 L2) (.float .f64 H2), (((kx.setCell (Nat.le_refl _) _).setCell (Nat.le_refl _) _).setCell (Nat.le_succ _) _).setCell (Nat.le_succ _) _⟩))
    case rest =>
    obtain ⟨sw, kw⟩ := hcut
    obtain ⟨⟨p0, p1, p2, p3⟩, ⟨p4, p5, p6, p7⟩, ⟨p8, p9, pa, pb⟩⟩ := id sw
    go_wp2_with (first | (go_at_call_of 12 (Value.agg #[.float .f64 L1, .float .f64 H1]); refine (he1 _).mono ?_; rintro e wv ⟨rfl, gv⟩; replace kw := Kp.trans kw gv; replace sw := H6.keep sw gv; clear gv p0 p1 p2 p3 p4 p5 p6 p7 p8 p9 pa pb; obtain ⟨⟨p0, p1, p2, p3⟩, ⟨p4, p5, p6, p7⟩, ⟨p8, p9, pa, pb⟩⟩ := id sw) | (go_at_call_of 12 (Value.agg #[.float .f64 L2, .float .f64 H2]); refine (he2 _).mono ?_; rintro e wv ⟨rfl, gv⟩; replace kw := Kp.trans kw gv; replace sw := H6.keep sw gv; clear gv p0 p1 p2 p3 p4 p5 p6 p7 p8 p9 pa pb; obtain ⟨⟨p0, p1, p2, p3⟩, ⟨p4, p5, p6, p7⟩, ⟨p8, p9, pa, pb⟩⟩ := id sw) | (go_at_call_of 13 (Value.agg #[.float .f64 L2, .float .f64 H2]); refine (hc2 _).mono ?_; rintro e wv ⟨rfl, gv⟩; replace kw := Kp.trans kw gv; replace sw := H6.keep sw gv; clear gv p0 p1 p2 p3 p4 p5 p6 p7 p8 p9 pa pb; obtain ⟨⟨p0, p1, p2, p3⟩, ⟨p4, p5, p6, p7⟩, ⟨p8, p9, pa, pb⟩⟩ := id sw))
    clear p0 p1 p2 p3 p4 p5 p6 p7 p8 p9 pa pb
    obtain ⟨⟨p0, p1, p2, p3⟩, ⟨p4, p5, p6, p7⟩, ⟨p8, p9, pa, pb⟩⟩ := id sw
    generalize hWW : wv = W at sw kw p0 p1 p2 p3 p4 p5 p6 p7 p8 p9 pa pb ⊢
    clear hWW
    refine Fq.wp_region_grow (by kernel_rfl) (by kernel_rfl) (fun ι _ G hG hall => ?_)
    have cc0 : ∀ n, (G n).cell? ⟨w.heap.size, 0, none⟩ = some (.float .f64 L1) := fun n => Fq.gkeep (hG n) p0
    have cc1 : ∀ n, (G n).cell? ⟨w.heap.size, 1, none⟩ = some (.float .f64 H1) := fun n => Fq.gkeep (hG n) p1
    have cc2 : ∀ n, (G n).cell? ⟨w.heap.size + 1, 0, none⟩ = some (.float .f64 L2) := fun n => Fq.gkeep (hG n) p4
    have cc3 : ∀ n, (G n).cell? ⟨w.heap.size + 1, 1, none⟩ = some (.float .f64 H2) := fun n => Fq.gkeep (hG n) p5
    repeat (go_big_quiet_step (first | (go_at_call_of 13 (Value.agg #[.float .f64 L1, .float .f64 H1]); exact (hc1 _).mono (fun e w' h => ⟨h.1, hall _ (Fq.gtrans (hG _) h.2)⟩))))
    refine wpQuiet_nil ?_
    rintro _ ⟨nq, rfl⟩
    have gq : Kp W (G nq) := hG nq
    clear cc0 cc1 cc2 cc3 hall hG
    replace sw := H6.keep sw gq
    replace kw := Kp.trans kw gq
    clear p0 p1 p2 p3 p4 p5 p6 p7 p8 p9 pa pb gq
    generalize G nq = W at sw kw ⊢
    obtain ⟨⟨p0, p1, p2, p3⟩, ⟨p4, p5, p6, p7⟩, ⟨p8, p9, pa, pb⟩⟩ := id sw
    go_wp2_with (first | (go_at_call 18; refine (hN _).mono ?_; rintro e wv ⟨rfl, gv⟩; replace kw := Kp.trans kw gv; replace sw := H6.keep sw gv; clear gv p0 p1 p2 p3 p4 p5 p6 p7 p8 p9 pa pb; obtain ⟨⟨p0, p1, p2, p3⟩, ⟨p4, p5, p6, p7⟩, ⟨p8, p9, pa, pb⟩⟩ := id sw))
    exact bodyPost_ret (v := .agg #[.float .f64 18442240474082181120, .float .f64 9218868437227405312]) (by simp [results, Tryz.results5, go_sem, p8, p9]) rfl ⟨rfl, (kw.setCell (by simp <;> omega) _).setCell (by simp <;> omega) _⟩
set_option maxRecDepth 20000 in
set_option maxHeartbeats 4000000 in
theorem canN2_ (a b c d L1 H1 L2 H2 : Nat) (hx : ∀ w : World, Calls Tryz.prog 11 #[.agg #[.float .f64 a, .float .f64 b]] w fun e w' => e = .returned (.agg #[.float .f64 L1, .float .f64 H1]) ∧ Kp w w') (hy : ∀ w : World, Calls Tryz.prog 11 #[.agg #[.float .f64 c, .float .f64 d]] w fun e w' => e = .returned (.agg #[.float .f64 L2, .float .f64 H2]) ∧ Kp w w') (hE : ∀ w : World, Calls Tryz.prog 14 #[] w fun e w' => e = .returned (.agg #[.float .f64 9218868437227405312, .float .f64 18442240474082181120]) ∧ Kp w w') (hN : ∀ w : World, Calls Tryz.prog 18 #[] w fun e w' => e = .returned (.agg #[.float .f64 18442240474082181120, .float .f64 9218868437227405312]) ∧ Kp w w') (he1 : ∀ w : World, Calls Tryz.prog 12 #[.agg #[.float .f64 L1, .float .f64 H1]] w fun e w' => e = .returned (.bool false) ∧ Kp w w') (hc1 : ∀ w : World, Calls Tryz.prog 13 #[.agg #[.float .f64 L1, .float .f64 H1]] w fun e w' => e = .returned (.bool false) ∧ Kp w w') (w : World) : Calls Tryz.prog 5 #[.agg #[.float .f64 a, .float .f64 b], .agg #[.float .f64 c, .float .f64 d]] w fun e w' => e = .returned (.agg #[.float .f64 18442240474082181120, .float .f64 9218868437227405312]) ∧ Kp w w' := by
    go_enter Tryz.func5, Tryz.ntmps5
    go_upto_region 1 with fail
    go_cut [] (fun wx => H6 wx w.heap.size (.float .f64 L1) (.float .f64 H1) (.float .f64 L2) (.float .f64 H2) (.float .f64 0) (.float .f64 0) ∧ Kp w wx)
    case first =>
      go_region_with (first | (go_at_call_of 11 (Value.agg #[.float .f64 a, .float .f64 b]); refine (hx _).mono ?_; rintro e wx ⟨rfl, gx⟩; first | (have kx := Kp.trans ky gx; have sx := H6.keep sy gx; obtain ⟨⟨p0, p1, p2, p3⟩, ⟨p4, p5, p6, p7⟩, ⟨p8, p9, pa, pb⟩⟩ := id sx) | (have kx : Kp w wx := Kp.trans ((((Kp.refl w).alloc _).alloc _).alloc _).drew gx; have sx := H6.keep (H6.new w (.float .f64 a) (.float .f64 b) (.float .f64 c) (.float .f64 d) (.float .f64 0) (.float .f64 0) 28 28 28) (Kp.trans (Kp.drew (Kp.refl _)) gx); obtain ⟨⟨p0, p1, p2, p3⟩, ⟨p4, p5, p6, p7⟩, ⟨p8, p9, pa, pb⟩⟩ := id sx)) | (go_at_call_of 11 (Value.agg #[.float .f64 c, .float .f64 d]); refine (hy _).mono ?_; rintro e wy ⟨rfl, gy⟩; first | (have ky := Kp.trans kx gy; have sy := H6.keep sx gy; obtain ⟨⟨p0, p1, p2, p3⟩, ⟨p4, p5, p6, p7⟩, ⟨p8, p9, pa, pb⟩⟩ := id sy) | (have ky : Kp w wy := Kp.trans ((((Kp.refl w).alloc _).alloc _).alloc _).drew gy; have sy := H6.keep (H6.new w (.float .f64 a) (.float .f64 b) (.float .f64 c) (.float .f64 d) (.float .f64 0) (.float .f64 0) 28 28 28) (Kp.trans (Kp.drew (Kp.refl _)) gy); obtain ⟨⟨p0, p1, p2, p3⟩, ⟨p4, p5, p6, p7⟩, ⟨p8, p9, pa, pb⟩⟩ := id sy)))
      all_goals (
        go_wp2_with fail
        go_meet
        first | (exact ⟨H6.put (id sy : H6 wy w.heap.size (.float .f64 a) (.float .f64 b) (.float .f64 c) (.float .f64 d) (.float .f64 0) (.float .f64 0)) (.float .f64 L1) (.float .f64 H1) (.float .f64 L2) (.float .f64 H2), (((ky.setCell (Nat.le_refl _) _).setCell (Nat.le_refl _) _).setCell (Nat.le_succ _) _).setCell (Nat.le_succ _) _⟩) | (exact ⟨H6.put (id sx : H6 wx w.heap.size (.float .f64 a) (.float .f64 b) (.float .f64 c) (.float .f64 d) (.float .f64 0) (.float .f64 0)) (.float .f64 L1) (.float .f64 H1) (.float .f64 L2) (.float .f64 H2), (((kx.setCell (Nat.le_refl _) _).setCell (Nat.le_refl _) _).setCell (Nat.le_succ _) _).setCell (Nat.le_succ _) _⟩))
    case rest =>
    obtain ⟨sw, kw⟩ := hcut
    obtain ⟨⟨p0, p1, p2, p3⟩, ⟨p4, p5, p6, p7⟩, ⟨p8, p9, pa, pb⟩⟩ := id sw
    go_wp2_with (first | (go_at_call_of 12 (Value.agg #[.float .f64 L1, .float .f64 H1]); refine (he1 _).mono ?_; rintro e wv ⟨rfl, gv⟩; replace kw := Kp.trans kw gv; replace sw := H6.keep sw gv; clear gv p0 p1 p2 p3 p4 p5 p6 p7 p8 p9 pa pb; obtain ⟨⟨p0, p1, p2, p3⟩, ⟨p4, p5, p6, p7⟩, ⟨p8, p9, pa, pb⟩⟩ := id sw))
    clear p0 p1 p2 p3 p4 p5 p6 p7 p8 p9 pa pb
    obtain ⟨⟨p0, p1, p2, p3⟩, ⟨p4, p5, p6, p7⟩, ⟨p8, p9, pa, pb⟩⟩ := id sw
    generalize hWW : wv = W at sw kw p0 p1 p2 p3 p4 p5 p6 p7 p8 p9 pa pb ⊢
    clear hWW
    refine Fq.wp_region_grow (by kernel_rfl) (by kernel_rfl) (fun ι _ G hG hall => ?_)
    have cc0 : ∀ n, (G n).cell? ⟨w.heap.size, 0, none⟩ = some (.float .f64 L1) := fun n => Fq.gkeep (hG n) p0
    have cc1 : ∀ n, (G n).cell? ⟨w.heap.size, 1, none⟩ = some (.float .f64 H1) := fun n => Fq.gkeep (hG n) p1
    have cc2 : ∀ n, (G n).cell? ⟨w.heap.size + 1, 0, none⟩ = some (.float .f64 L2) := fun n => Fq.gkeep (hG n) p4
    have cc3 : ∀ n, (G n).cell? ⟨w.heap.size + 1, 1, none⟩ = some (.float .f64 H2) := fun n => Fq.gkeep (hG n) p5
    repeat (go_big_quiet_step (first | (go_at_call_of 13 (Value.agg #[.float .f64 L1, .float .f64 H1]); exact (hc1 _).mono (fun e w' h => ⟨h.1, hall _ (Fq.gtrans (hG _) h.2)⟩))))
    refine wpQuiet_nil ?_
    rintro _ ⟨nq, rfl⟩
    have gq : Kp W (G nq) := hG nq
    clear cc0 cc1 cc2 cc3 hall hG
    replace sw := H6.keep sw gq
    replace kw := Kp.trans kw gq
    clear p0 p1 p2 p3 p4 p5 p6 p7 p8 p9 pa pb gq
    generalize G nq = W at sw kw ⊢
    obtain ⟨⟨p0, p1, p2, p3⟩, ⟨p4, p5, p6, p7⟩, ⟨p8, p9, pa, pb⟩⟩ := id sw
    go_wp2_with (first | (go_at_call 18; refine (hN _).mono ?_; rintro e wv ⟨rfl, gv⟩; replace kw := Kp.trans kw gv; replace sw := H6.keep sw gv; clear gv p0 p1 p2 p3 p4 p5 p6 p7 p8 p9 pa pb; obtain ⟨⟨p0, p1, p2, p3⟩, ⟨p4, p5, p6, p7⟩, ⟨p8, p9, pa, pb⟩⟩ := id sw))
    exact bodyPost_ret (v := .agg #[.float .f64 18442240474082181120, .float .f64 9218868437227405312]) (by simp [results, Tryz.results5, go_sem, p8, p9]) rfl ⟨rfl, (kw.setCell (by simp <;> omega) _).setCell (by simp <;> omega) _⟩
set_option maxRecDepth 20000 in
set_option maxHeartbeats 4000000 in
theorem canN3_ (a b c d L1 H1 L2 H2 : Nat) (hx : ∀ w : World, Calls Tryz.prog 11 #[.agg #[.float .f64 a, .float .f64 b]] w fun e w' => e = .returned (.agg #[.float .f64 L1, .float .f64 H1]) ∧ Kp w w') (hy : ∀ w : World, Calls Tryz.prog 11 #[.agg #[.float .f64 c, .float .f64 d]] w fun e w' => e = .returned (.agg #[.float .f64 L2, .float .f64 H2]) ∧ Kp w w') (hE : ∀ w : World, Calls Tryz.prog 14 #[] w fun e w' => e = .returned (.agg #[.float .f64 9218868437227405312, .float .f64 18442240474082181120]) ∧ Kp w w') (hN : ∀ w : World, Calls Tryz.prog 18 #[] w fun e w' => e = .returned (.agg #[.float .f64 18442240474082181120, .float .f64 9218868437227405312]) ∧ Kp w w') (he1 : ∀ w : World, Calls Tryz.prog 12 #[.agg #[.float .f64 L1, .float .f64 H1]] w fun e w' => e = .returned (.bool false) ∧ Kp w w') (hc1 : ∀ w : World, Calls Tryz.prog 13 #[.agg #[.float .f64 L1, .float .f64 H1]] w fun e w' => e = .returned (.bool true) ∧ Kp w w') (hc2 : ∀ w : World, Calls Tryz.prog 13 #[.agg #[.float .f64 L2, .float .f64 H2]] w fun e w' => e = .returned (.bool false) ∧ Kp w w') (w : World) : Calls Tryz.prog 5 #[.agg #[.float .f64 a, .float .f64 b], .agg #[.float .f64 c, .float .f64 d]] w fun e w' => e = .returned (.agg #[.float .f64 18442240474082181120, .float .f64 9218868437227405312]) ∧ Kp w w' := by
    go_enter Tryz.func5, Tryz.ntmps5
    go_upto_region 1 with fail
    go_cut [] (fun wx => H6 wx w.heap.size (.float .f64 L1) (.float .f64 H1) (.float .f64 L2) (.float .f64 H2) (.float .f64 0) (.float .f64 0) ∧ Kp w wx)
    case first =>
      go_region_with (first | (go_at_call_of 11 (Value.agg #[.float .f64 a, .float .f64 b]); refine (hx _).mono ?_; rintro e wx ⟨rfl, gx⟩; first | (have kx := Kp.trans ky gx; have sx := H6.keep sy gx; obtain ⟨⟨p0, p1, p2, p3⟩, ⟨p4, p5, p6, p7⟩, ⟨p8, p9, pa, pb⟩⟩ := id sx) | (have kx : Kp w wx := Kp.trans ((((Kp.refl w).alloc _).alloc _).alloc _).drew gx; have sx := H6.keep (H6.new w (.float .f64 a) (.float .f64 b) (.float .f64 c) (.float .f64 d) (.float .f64 0) (.float .f64 0) 28 28 28) (Kp.trans (Kp.drew (Kp.refl _)) gx); obtain ⟨⟨p0, p1, p2, p3⟩, ⟨p4, p5, p6, p7⟩, ⟨p8, p9, pa, pb⟩⟩ := id sx)) | (go_at_call_of 11 (Value.agg #[.float .f64 c, .float .f64 d]); refine (hy _).mono ?_; rintro e wy ⟨rfl, gy⟩; first | (have ky := Kp.trans kx gy; have sy := H6.keep sx gy; obtain ⟨⟨p0, p1, p2, p3⟩, ⟨p4, p5, p6, p7⟩, ⟨p8, p9, pa, pb⟩⟩ := id sy) | (have ky : Kp w wy := Kp.trans ((((Kp.refl w).alloc _).alloc _).alloc _).drew gy; have sy := H6.keep (H6.new w (.float .f64 a) (.float .f64 b) (.float .f64 c) (.float .f64 d) (.float .f64 0) (.float .f64 0) 28 28 28) (Kp.trans (Kp.drew (Kp.refl _)) gy); obtain ⟨⟨p0, p1, p2, p3⟩, ⟨p4, p5, p6, p7⟩, ⟨p8, p9, pa, pb⟩⟩ := id sy)))
      all_goals (
        go_wp2_with fail
        go_meet
        first | (exact ⟨H6.put (id sy : H6 wy w.heap.size (.float .f64 a) (.float .f64 b) (.float .f64 c) (.float .f64 d) (.float .f64 0) (.float .f64 0)) (.float .f64 L1) (.float .f64 H1) (.float .f64 L2) (.float .f64 H2), (((ky.setCell (Nat.le_refl _) _).setCell (Nat.le_refl _) _).setCell (Nat.le_succ _) _).setCell (Nat.le_succ _) _⟩) | (exact ⟨H6.put (id sx : H6 wx w.heap.size (.float .f64 a) (.float .f64 b) (.float .f64 c) (.float .f64 d) (.float .f64 0) (.float .f64 0)) (.float .f64 L1) (.float .f64 H1) (.float .f64 L2) (.float .f64 H2), (((kx.setCell (Nat.le_refl _) _).setCell (Nat.le_refl _) _).setCell (Nat.le_succ _) _).setCell (Nat.le_succ _) _⟩))
    case rest =>
    obtain ⟨sw, kw⟩ := hcut
    obtain ⟨⟨p0, p1, p2, p3⟩, ⟨p4, p5, p6, p7⟩, ⟨p8, p9, pa, pb⟩⟩ := id sw
    go_wp2_with (first | (go_at_call_of 12 (Value.agg #[.float .f64 L1, .float .f64 H1]); refine (he1 _).mono ?_; rintro e wv ⟨rfl, gv⟩; replace kw := Kp.trans kw gv; replace sw := H6.keep sw gv; clear gv p0 p1 p2 p3 p4 p5 p6 p7 p8 p9 pa pb; obtain ⟨⟨p0, p1, p2, p3⟩, ⟨p4, p5, p6, p7⟩, ⟨p8, p9, pa, pb⟩⟩ := id sw))
    clear p0 p1 p2 p3 p4 p5 p6 p7 p8 p9 pa pb
    obtain ⟨⟨p0, p1, p2, p3⟩, ⟨p4, p5, p6, p7⟩, ⟨p8, p9, pa, pb⟩⟩ := id sw
    generalize hWW : wv = W at sw kw p0 p1 p2 p3 p4 p5 p6 p7 p8 p9 pa pb ⊢
    clear hWW
    refine Fq.wp_region_grow (by kernel_rfl) (by kernel_rfl) (fun ι _ G hG hall => ?_)
    have cc0 : ∀ n, (G n).cell? ⟨w.heap.size, 0, none⟩ = some (.float .f64 L1) := fun n => Fq.gkeep (hG n) p0
    have cc1 : ∀ n, (G n).cell? ⟨w.heap.size, 1, none⟩ = some (.float .f64 H1) := fun n => Fq.gkeep (hG n) p1
    have cc2 : ∀ n, (G n).cell? ⟨w.heap.size + 1, 0, none⟩ = some (.float .f64 L2) := fun n => Fq.gkeep (hG n) p4
    have cc3 : ∀ n, (G n).cell? ⟨w.heap.size + 1, 1, none⟩ = some (.float .f64 H2) := fun n => Fq.gkeep (hG n) p5
    repeat (go_big_quiet_step (first | (go_at_call_of 13 (Value.agg #[.float .f64 L1, .float .f64 H1]); exact (hc1 _).mono (fun e w' h => ⟨h.1, hall _ (Fq.gtrans (hG _) h.2)⟩)) | (go_at_call_of 13 (Value.agg #[.float .f64 L2, .float .f64 H2]); exact (hc2 _).mono (fun e w' h => ⟨h.1, hall _ (Fq.gtrans (hG _) h.2)⟩))))
    refine wpQuiet_nil ?_
    rintro _ ⟨nq, rfl⟩
    have gq : Kp W (G nq) := hG nq
    clear cc0 cc1 cc2 cc3 hall hG
    replace sw := H6.keep sw gq
    replace kw := Kp.trans kw gq
    clear p0 p1 p2 p3 p4 p5 p6 p7 p8 p9 pa pb gq
    generalize G nq = W at sw kw ⊢
    obtain ⟨⟨p0, p1, p2, p3⟩, ⟨p4, p5, p6, p7⟩, ⟨p8, p9, pa, pb⟩⟩ := id sw
    go_wp2_with (first | (go_at_call 18; refine (hN _).mono ?_; rintro e wv ⟨rfl, gv⟩; replace kw := Kp.trans kw gv; replace sw := H6.keep sw gv; clear gv p0 p1 p2 p3 p4 p5 p6 p7 p8 p9 pa pb; obtain ⟨⟨p0, p1, p2, p3⟩, ⟨p4, p5, p6, p7⟩, ⟨p8, p9, pa, pb⟩⟩ := id sw))
    exact bodyPost_ret (v := .agg #[.float .f64 18442240474082181120, .float .f64 9218868437227405312]) (by simp [results, Tryz.results5, go_sem, p8, p9]) rfl ⟨rfl, (kw.setCell (by simp <;> omega) _).setCell (by simp <;> omega) _⟩
set_option maxRecDepth 20000 in
set_option maxHeartbeats 4000000 in
theorem canF_ (a b c d L1 H1 L2 H2 : Nat) (hx : ∀ w : World, Calls Tryz.prog 11 #[.agg #[.float .f64 a, .float .f64 b]] w fun e w' => e = .returned (.agg #[.float .f64 L1, .float .f64 H1]) ∧ Kp w w') (hy : ∀ w : World, Calls Tryz.prog 11 #[.agg #[.float .f64 c, .float .f64 d]] w fun e w' => e = .returned (.agg #[.float .f64 L2, .float .f64 H2]) ∧ Kp w w') (hE : ∀ w : World, Calls Tryz.prog 14 #[] w fun e w' => e = .returned (.agg #[.float .f64 9218868437227405312, .float .f64 18442240474082181120]) ∧ Kp w w') (hN : ∀ w : World, Calls Tryz.prog 18 #[] w fun e w' => e = .returned (.agg #[.float .f64 18442240474082181120, .float .f64 9218868437227405312]) ∧ Kp w w') (he1 : ∀ w : World, Calls Tryz.prog 12 #[.agg #[.float .f64 L1, .float .f64 H1]] w fun e w' => e = .returned (.bool false) ∧ Kp w w') (hc1 : ∀ w : World, Calls Tryz.prog 13 #[.agg #[.float .f64 L1, .float .f64 H1]] w fun e w' => e = .returned (.bool true) ∧ Kp w w') (hc2 : ∀ w : World, Calls Tryz.prog 13 #[.agg #[.float .f64 L2, .float .f64 H2]] w fun e w' => e = .returned (.bool true) ∧ Kp w w') (D1 D2 : Nat) (hg1 : ∀ w : World, Calls Tryz.prog 16 #[.float .f64 L1, .float .f64 H1] w fun e w' => ∃ v, e = .returned v ∧ Own w' 0 v (dig D1) ∧ Kp w w') (hg2 : ∀ w : World, Calls Tryz.prog 16 #[.float .f64 L2, .float .f64 H2] w fun e w' => ∃ v, e = .returned v ∧ Own w' 0 v (dig D2) ∧ Kp w w') (C : Int) (hcm : ∀ (W : World) (p q : Option Addr) (c d : Nat), Arr W p (dig D1) → Arr W q (dig D2) → (dig D1).length ≤ c → (dig D2).length ≤ d → Calls Tryz.prog 15 #[.slice p (dig D1).length c, .slice q (dig D2).length d] W fun e w' => e = .returned (.int .i64 C) ∧ Kp W w') (tc : C < 0) (w : World) : Calls Tryz.prog 5 #[.agg #[.float .f64 a, .float .f64 b], .agg #[.float .f64 c, .float .f64 d]] w fun e w' => e = .returned (.agg #[.float .f64 18442240474082181120, .float .f64 9218868437227405312]) ∧ Kp w w' := by
    go_enter Tryz.func5, Tryz.ntmps5
    go_upto_region 1 with fail
    go_cut [] (fun wx => H6 wx w.heap.size (.float .f64 L1) (.float .f64 H1) (.float .f64 L2) (.float .f64 H2) (.float .f64 0) (.float .f64 0) ∧ Kp w wx)
    case first =>
      go_region_with (first | (go_at_call_of 11 (Value.agg #[.float .f64 a, .float .f64 b]); refine (hx _).mono ?_; rintro e wx ⟨rfl, gx⟩; first | (have kx := Kp.trans ky gx; have sx := H6.keep sy gx; obtain ⟨⟨p0, p1, p2, p3⟩, ⟨p4, p5, p6, p7⟩, ⟨p8, p9, pa, pb⟩⟩ := id sx) | (have kx : Kp w wx := Kp.trans ((((Kp.refl w).alloc _).alloc _).alloc _).drew gx; have sx := H6.keep (H6.new w (.float .f64 a) (.float .f64 b) (.float .f64 c) (.float .f64 d) (.float .f64 0) (.float .f64 0) 28 28 28) (Kp.trans (Kp.drew (Kp.refl _)) gx); obtain ⟨⟨p0, p1, p2, p3⟩, ⟨p4, p5, p6, p7⟩, ⟨p8, p9, pa, pb⟩⟩ := id sx)) | (go_at_call_of 11 (Value.agg #[.float .f64 c, .float .f64 d]); refine (hy _).mono ?_; rintro e wy ⟨rfl, gy⟩; first | (have ky := Kp.trans kx gy; have sy := H6.keep sx gy; obtain ⟨⟨p0, p1, p2, p3⟩, ⟨p4, p5, p6, p7⟩, ⟨p8, p9, pa, pb⟩⟩ := id sy) | (have ky : Kp w wy := Kp.trans ((((Kp.refl w).alloc _).alloc _).alloc _).drew gy; have sy := H6.keep (H6.new w (.float .f64 a) (.float .f64 b) (.float .f64 c) (.float .f64 d) (.float .f64 0) (.float .f64 0) 28 28 28) (Kp.trans (Kp.drew (Kp.refl _)) gy); obtain ⟨⟨p0, p1, p2, p3⟩, ⟨p4, p5, p6, p7⟩, ⟨p8, p9, pa, pb⟩⟩ := id sy)))
      all_goals (
        go_wp2_with fail
        go_meet
        first | (exact ⟨H6.put (id sy : H6 wy w.heap.size (.float .f64 a) (.float .f64 b) (.float .f64 c) (.float .f64 d) (.float .f64 0) (.float .f64 0)) (.float .f64 L1) (.float .f64 H1) (.float .f64 L2) (.float .f64 H2), (((ky.setCell (Nat.le_refl _) _).setCell (Nat.le_refl _) _).setCell (Nat.le_succ _) _).setCell (Nat.le_succ _) _⟩) | (exact ⟨H6.put (id sx : H6 wx w.heap.size (.float .f64 a) (.float .f64 b) (.float .f64 c) (.float .f64 d) (.float .f64 0) (.float .f64 0)) (.float .f64 L1) (.float .f64 H1) (.float .f64 L2) (.float .f64 H2), (((kx.setCell (Nat.le_refl _) _).setCell (Nat.le_refl _) _).setCell (Nat.le_succ _) _).setCell (Nat.le_succ _) _⟩))
    case rest =>
    obtain ⟨sw, kw⟩ := hcut
    obtain ⟨⟨p0, p1, p2, p3⟩, ⟨p4, p5, p6, p7⟩, ⟨p8, p9, pa, pb⟩⟩ := id sw
    go_wp2_with (first | (go_at_call_of 12 (Value.agg #[.float .f64 L1, .float .f64 H1]); refine (he1 _).mono ?_; rintro e wv ⟨rfl, gv⟩; replace kw := Kp.trans kw gv; replace sw := H6.keep sw gv; clear gv p0 p1 p2 p3 p4 p5 p6 p7 p8 p9 pa pb; obtain ⟨⟨p0, p1, p2, p3⟩, ⟨p4, p5, p6, p7⟩, ⟨p8, p9, pa, pb⟩⟩ := id sw))
    clear p0 p1 p2 p3 p4 p5 p6 p7 p8 p9 pa pb
    obtain ⟨⟨p0, p1, p2, p3⟩, ⟨p4, p5, p6, p7⟩, ⟨p8, p9, pa, pb⟩⟩ := id sw
    generalize hWW : wv = W at sw kw p0 p1 p2 p3 p4 p5 p6 p7 p8 p9 pa pb ⊢
    clear hWW
    go_region_held3 (fun w' => w'.cell? ⟨w.heap.size, 0, none⟩ = some (.float .f64 L1) ∧ w'.cell? ⟨w.heap.size, 1, none⟩ = some (.float .f64 H1) ∧ w'.cell? ⟨w.heap.size + 1, 0, none⟩ = some (.float .f64 L2) ∧ w'.cell? ⟨w.heap.size + 1, 1, none⟩ = some (.float .f64 H2)) (first | (exact ⟨sw.1.1, sw.1.2.1, sw.2.1.1, sw.2.1.2.1⟩) | (exact ⟨s1.1.1, s1.1.2.1, s1.2.1.1, s1.2.1.2.1⟩) | (exact ⟨s2.1.1, s2.1.2.1, s2.2.1.1, s2.2.1.2.1⟩) | (exact ⟨s3.1.1, s3.1.2.1, s3.2.1.1, s3.2.1.2.1⟩) | (exact ⟨s4.1.1, s4.1.2.1, s4.2.1.1, s4.2.1.2.1⟩) | (exact ⟨s5.1.1, s5.1.2.1, s5.2.1.1, s5.2.1.2.1⟩)) (first | (go_at_call_of 13 (Value.agg #[.float .f64 L1, .float .f64 H1]); refine (hc1 _).mono ?_; rintro e w1 ⟨rfl, g1⟩; have k1 : Kp W w1 := Kp.trans (Kp.drew (Kp.refl _)) g1; have s1 := H6.keep sw k1) | (go_at_call_of 13 (Value.agg #[.float .f64 L2, .float .f64 H2]); refine (hc2 _).mono ?_; rintro e w2 ⟨rfl, g2⟩; have k2 : Kp W w2 := Kp.trans k1 g2; have s2 := H6.keep sw k2) | (go_at_call_of 16 (Value.float .f64 L1); refine (hg1 _).mono ?_; rintro e w3 ⟨v3, rfl, o3, g3⟩; obtain ⟨q3, c3, rfl, a3, l3⟩ := o3.arr; have k3 : Kp W w3 := Kp.trans k2 g3; have s3 := H6.keep sw k3) | (go_at_call_of 16 (Value.float .f64 L2); refine (hg2 _).mono ?_; rintro e w4 ⟨v4, rfl, o4, g4⟩; obtain ⟨q4, c4, rfl, a4, l4⟩ := o4.arr; replace a3 := a3.grown g4; have k4 : Kp W w4 := Kp.trans k3 g4; have s4 := H6.keep sw k4) | (go_at_call 15; refine (hcm _ _ _ _ _ a3 a4 l3 l4).mono ?_; rintro e w5 ⟨rfl, g5⟩; have k5 : Kp W w5 := Kp.trans k4 g5; have s5 := H6.keep sw k5))
    replace kw := Kp.trans kw k5
    clear p0 p1 p2 p3 p4 p5 p6 p7 p8 p9 pa pb sw
    have sw := s5
    clear a3 a4 o3 o4 s1 s2 s3 s4 s5 k1 k2 k3 k4 k5 g1 g2 g3 g4 g5
    generalize w5 = W5 at sw kw ⊢
    obtain ⟨⟨p0, p1, p2, p3⟩, ⟨p4, p5, p6, p7⟩, ⟨p8, p9, pa, pb⟩⟩ := id sw
    go_wp2_with (first | (go_at_call 18; refine (hN _).mono ?_; rintro e wv ⟨rfl, gv⟩; replace kw := Kp.trans kw gv; replace sw := H6.keep sw gv; clear gv p0 p1 p2 p3 p4 p5 p6 p7 p8 p9 pa pb; obtain ⟨⟨p0, p1, p2, p3⟩, ⟨p4, p5, p6, p7⟩, ⟨p8, p9, pa, pb⟩⟩ := id sw))
    exact bodyPost_ret (v := .agg #[.float .f64 18442240474082181120, .float .f64 9218868437227405312]) (by simp [results, Tryz.results5, go_sem, p8, p9]) rfl ⟨rfl, (kw.setCell (by simp <;> omega) _).setCell (by simp <;> omega) _⟩
set_option maxRecDepth 20000 in
set_option maxHeartbeats 4000000 in
theorem canG_ (a b c d L1 H1 L2 H2 : Nat) (hx : ∀ w : World, Calls Tryz.prog 11 #[.agg #[.float .f64 a, .float .f64 b]] w fun e w' => e = .returned (.agg #[.float .f64 L1, .float .f64 H1]) ∧ Kp w w') (hy : ∀ w : World, Calls Tryz.prog 11 #[.agg #[.float .f64 c, .float .f64 d]] w fun e w' => e = .returned (.agg #[.float .f64 L2, .float .f64 H2]) ∧ Kp w w') (hE : ∀ w : World, Calls Tryz.prog 14 #[] w fun e w' => e = .returned (.agg #[.float .f64 9218868437227405312, .float .f64 18442240474082181120]) ∧ Kp w w') (hN : ∀ w : World, Calls Tryz.prog 18 #[] w fun e w' => e = .returned (.agg #[.float .f64 18442240474082181120, .float .f64 9218868437227405312]) ∧ Kp w w') (he1 : ∀ w : World, Calls Tryz.prog 12 #[.agg #[.float .f64 L1, .float .f64 H1]] w fun e w' => e = .returned (.bool false) ∧ Kp w w') (hc1 : ∀ w : World, Calls Tryz.prog 13 #[.agg #[.float .f64 L1, .float .f64 H1]] w fun e w' => e = .returned (.bool true) ∧ Kp w w') (hc2 : ∀ w : World, Calls Tryz.prog 13 #[.agg #[.float .f64 L2, .float .f64 H2]] w fun e w' => e = .returned (.bool true) ∧ Kp w w') (D1 D2 : Nat) (hg1 : ∀ w : World, Calls Tryz.prog 16 #[.float .f64 L1, .float .f64 H1] w fun e w' => ∃ v, e = .returned v ∧ Own w' 0 v (dig D1) ∧ Kp w w') (hg2 : ∀ w : World, Calls Tryz.prog 16 #[.float .f64 L2, .float .f64 H2] w fun e w' => ∃ v, e = .returned v ∧ Own w' 0 v (dig D2) ∧ Kp w w') (C : Int) (hcm : ∀ (W : World) (p q : Option Addr) (c d : Nat), Arr W p (dig D1) → Arr W q (dig D2) → (dig D1).length ≤ c → (dig D2).length ≤ d → Calls Tryz.prog 15 #[.slice p (dig D1).length c, .slice q (dig D2).length d] W fun e w' => e = .returned (.int .i64 C) ∧ Kp W w') (tc : 0 ≤ C) (NL NH : Nat) (w : World) (hA1 : ∀ W : World, Kp w W → Calls Tryz.prog 17 #[.int .i64 (-1), .float .f64 L1, .float .f64 L2] W fun e w' => e = .returned (.float .f64 NL) ∧ Kp W w') (hA2 : ∀ W : World, Kp w W → Calls Tryz.prog 17 #[.int .i64 1, .float .f64 H1, .float .f64 H2] W fun e w' => e = .returned (.float .f64 NH) ∧ Kp W w') : Calls Tryz.prog 5 #[.agg #[.float .f64 a, .float .f64 b], .agg #[.float .f64 c, .float .f64 d]] w fun e w' => e = .returned (.agg #[.float .f64 NL, .float .f64 NH]) ∧ Kp w w' := by
    go_enter Tryz.func5, Tryz.ntmps5
    go_upto_region 1 with fail
    go_cut [] (fun wx => H6 wx w.heap.size (.float .f64 L1) (.float .f64 H1) (.float .f64 L2) (.float .f64 H2) (.float .f64 0) (.float .f64 0) ∧ Kp w wx)
    case first =>
      go_region_with (first | (go_at_call_of 11 (Value.agg #[.float .f64 a, .float .f64 b]); refine (hx _).mono ?_; rintro e wx ⟨rfl, gx⟩; first | (have kx := Kp.trans ky gx; have sx := H6.keep sy gx; obtain ⟨⟨p0, p1, p2, p3⟩, ⟨p4, p5, p6, p7⟩, ⟨p8, p9, pa, pb⟩⟩ := id sx) | (have kx : Kp w wx := Kp.trans ((((Kp.refl w).alloc _).alloc _).alloc _).drew gx; have sx := H6.keep (H6.new w (.float .f64 a) (.float .f64 b) (.float .f64 c) (.float .f64 d) (.float .f64 0) (.float .f64 0) 28 28 28) (Kp.trans (Kp.drew (Kp.refl _)) gx); obtain ⟨⟨p0, p1, p2, p3⟩, ⟨p4, p5, p6, p7⟩, ⟨p8, p9, pa, pb⟩⟩ := id sx)) | (go_at_call_of 11 (Value.agg #[.float .f64 c, .float .f64 d]); refine (hy _).mono ?_; rintro e wy ⟨rfl, gy⟩; first | (have ky := Kp.trans kx gy; have sy := H6.keep sx gy; obtain ⟨⟨p0, p1, p2, p3⟩, ⟨p4, p5, p6, p7⟩, ⟨p8, p9, pa, pb⟩⟩ := id sy) | (have ky : Kp w wy := Kp.trans ((((Kp.refl w).alloc _).alloc _).alloc _).drew gy; have sy := H6.keep (H6.new w (.float .f64 a) (.float .f64 b) (.float .f64 c) (.float .f64 d) (.float .f64 0) (.float .f64 0) 28 28 28) (Kp.trans (Kp.drew (Kp.refl _)) gy); obtain ⟨⟨p0, p1, p2, p3⟩, ⟨p4, p5, p6, p7⟩, ⟨p8, p9, pa, pb⟩⟩ := id sy)))
      all_goals (
        go_wp2_with fail
        go_meet
        first | (exact ⟨H6.put (id sy : H6 wy w.heap.size (.float .f64 a) (.float .f64 b) (.float .f64 c) (.float .f64 d) (.float .f64 0) (.float .f64 0)) (.float .f64 L1) (.float .f64 H1) (.float .f64 L2) (.float .f64 H2), (((ky.setCell (Nat.le_refl _) _).setCell (Nat.le_refl _) _).setCell (Nat.le_succ _) _).setCell (Nat.le_succ _) _⟩) | (exact ⟨H6.put (id sx : H6 wx w.heap.size (.float .f64 a) (.float .f64 b) (.float .f64 c) (.float .f64 d) (.float .f64 0) (.float .f64 0)) (.float .f64 L1) (.float .f64 H1) (.float .f64 L2) (.float .f64 H2), (((kx.setCell (Nat.le_refl _) _).setCell (Nat.le_refl _) _).setCell (Nat.le_succ _) _).setCell (Nat.le_succ _) _⟩))
    case rest =>
    obtain ⟨sw, kw⟩ := hcut
    obtain ⟨⟨p0, p1, p2, p3⟩, ⟨p4, p5, p6, p7⟩, ⟨p8, p9, pa, pb⟩⟩ := id sw
    go_wp2_with (first | (go_at_call_of 12 (Value.agg #[.float .f64 L1, .float .f64 H1]); refine (he1 _).mono ?_; rintro e wv ⟨rfl, gv⟩; replace kw := Kp.trans kw gv; replace sw := H6.keep sw gv; clear gv p0 p1 p2 p3 p4 p5 p6 p7 p8 p9 pa pb; obtain ⟨⟨p0, p1, p2, p3⟩, ⟨p4, p5, p6, p7⟩, ⟨p8, p9, pa, pb⟩⟩ := id sw))
    clear p0 p1 p2 p3 p4 p5 p6 p7 p8 p9 pa pb
    obtain ⟨⟨p0, p1, p2, p3⟩, ⟨p4, p5, p6, p7⟩, ⟨p8, p9, pa, pb⟩⟩ := id sw
    generalize hWW : wv = W at sw kw p0 p1 p2 p3 p4 p5 p6 p7 p8 p9 pa pb ⊢
    clear hWW
    go_region_held3 (fun w' => w'.cell? ⟨w.heap.size, 0, none⟩ = some (.float .f64 L1) ∧ w'.cell? ⟨w.heap.size, 1, none⟩ = some (.float .f64 H1) ∧ w'.cell? ⟨w.heap.size + 1, 0, none⟩ = some (.float .f64 L2) ∧ w'.cell? ⟨w.heap.size + 1, 1, none⟩ = some (.float .f64 H2)) (first | (exact ⟨sw.1.1, sw.1.2.1, sw.2.1.1, sw.2.1.2.1⟩) | (exact ⟨s1.1.1, s1.1.2.1, s1.2.1.1, s1.2.1.2.1⟩) | (exact ⟨s2.1.1, s2.1.2.1, s2.2.1.1, s2.2.1.2.1⟩) | (exact ⟨s3.1.1, s3.1.2.1, s3.2.1.1, s3.2.1.2.1⟩) | (exact ⟨s4.1.1, s4.1.2.1, s4.2.1.1, s4.2.1.2.1⟩) | (exact ⟨s5.1.1, s5.1.2.1, s5.2.1.1, s5.2.1.2.1⟩)) (first | (go_at_call_of 13 (Value.agg #[.float .f64 L1, .float .f64 H1]); refine (hc1 _).mono ?_; rintro e w1 ⟨rfl, g1⟩; have k1 : Kp W w1 := Kp.trans (Kp.drew (Kp.refl _)) g1; have s1 := H6.keep sw k1) | (go_at_call_of 13 (Value.agg #[.float .f64 L2, .float .f64 H2]); refine (hc2 _).mono ?_; rintro e w2 ⟨rfl, g2⟩; have k2 : Kp W w2 := Kp.trans k1 g2; have s2 := H6.keep sw k2) | (go_at_call_of 16 (Value.float .f64 L1); refine (hg1 _).mono ?_; rintro e w3 ⟨v3, rfl, o3, g3⟩; obtain ⟨q3, c3, rfl, a3, l3⟩ := o3.arr; have k3 : Kp W w3 := Kp.trans k2 g3; have s3 := H6.keep sw k3) | (go_at_call_of 16 (Value.float .f64 L2); refine (hg2 _).mono ?_; rintro e w4 ⟨v4, rfl, o4, g4⟩; obtain ⟨q4, c4, rfl, a4, l4⟩ := o4.arr; replace a3 := a3.grown g4; have k4 : Kp W w4 := Kp.trans k3 g4; have s4 := H6.keep sw k4) | (go_at_call 15; refine (hcm _ _ _ _ _ a3 a4 l3 l4).mono ?_; rintro e w5 ⟨rfl, g5⟩; have k5 : Kp W w5 := Kp.trans k4 g5; have s5 := H6.keep sw k5))
    replace kw := Kp.trans kw k5
    clear p0 p1 p2 p3 p4 p5 p6 p7 p8 p9 pa pb sw
    have sw := s5
    clear a3 a4 o3 o4 s1 s2 s3 s4 s5 k1 k2 k3 k4 k5 g1 g2 g3 g4 g5
    generalize w5 = W5 at sw kw ⊢
    obtain ⟨⟨p0, p1, p2, p3⟩, ⟨p4, p5, p6, p7⟩, ⟨p8, p9, pa, pb⟩⟩ := id sw
    go_wp2
    go_region_held3 (fun w' => w'.cell? ⟨w.heap.size, 0, none⟩ = some (.float .f64 L1) ∧ w'.cell? ⟨w.heap.size, 1, none⟩ = some (.float .f64 H1) ∧ w'.cell? ⟨w.heap.size + 1, 0, none⟩ = some (.float .f64 L2) ∧ w'.cell? ⟨w.heap.size + 1, 1, none⟩ = some (.float .f64 H2)) (first | (exact ⟨sw.1.1, sw.1.2.1, sw.2.1.1, sw.2.1.2.1⟩) | (exact ⟨sA.1.1, sA.1.2.1, sA.2.1.1, sA.2.1.2.1⟩) | (exact ⟨sC.1.1, sC.1.2.1, sC.2.1.1, sC.2.1.2.1⟩) | (exact ⟨(World.cell?_setCell_far _ _ _ _ (by simp <;> omega)).trans ((World.cell?_setCell_far _ _ _ _ (by simp <;> omega)).trans sA.1.1), (World.cell?_setCell_far _ _ _ _ (by simp <;> omega)).trans ((World.cell?_setCell_far _ _ _ _ (by simp <;> omega)).trans sA.1.2.1), (World.cell?_setCell_far _ _ _ _ (by simp <;> omega)).trans ((World.cell?_setCell_far _ _ _ _ (by simp <;> omega)).trans sA.2.1.1), (World.cell?_setCell_far _ _ _ _ (by simp <;> omega)).trans ((World.cell?_setCell_far _ _ _ _ (by simp <;> omega)).trans sA.2.1.2.1)⟩) | (exact ⟨(World.cell?_setCell_far _ _ _ _ (by simp <;> omega)).trans ((World.cell?_setCell_far _ _ _ _ (by simp <;> omega)).trans sC.1.1), (World.cell?_setCell_far _ _ _ _ (by simp <;> omega)).trans ((World.cell?_setCell_far _ _ _ _ (by simp <;> omega)).trans sC.1.2.1), (World.cell?_setCell_far _ _ _ _ (by simp <;> omega)).trans ((World.cell?_setCell_far _ _ _ _ (by simp <;> omega)).trans sC.2.1.1), (World.cell?_setCell_far _ _ _ _ (by simp <;> omega)).trans ((World.cell?_setCell_far _ _ _ _ (by simp <;> omega)).trans sC.2.1.2.1)⟩)) (first | (go_at_call_of 17 (Value.float .f64 L1); first | (refine (hA1 _ (Kp.trans kC (Kp.refl _))).mono ?_; rintro e wA ⟨rfl, gA⟩; have kA := Kp.trans kC gA; have sA := H6.keep sC gA; obtain ⟨⟨r0, r1, r2, r3⟩, ⟨r4, r5, r6, r7⟩, ⟨r8, r9, ra, rb⟩⟩ := id sA) | (refine (hA1 _ (Kp.drew kw)).mono ?_; rintro e wA ⟨rfl, gA⟩; have kA := Kp.trans (Kp.drew kw) gA; have sA := H6.keep sw (Kp.trans (Kp.drew (Kp.refl _)) gA); obtain ⟨⟨r0, r1, r2, r3⟩, ⟨r4, r5, r6, r7⟩, ⟨r8, r9, ra, rb⟩⟩ := id sA)) | (go_at_call_of 17 (Value.float .f64 H1); first | (refine (hA2 _ (Kp.trans kA (Kp.refl _))).mono ?_; rintro e wC ⟨rfl, gC⟩; have kC := Kp.trans kA gC; have sC := H6.keep sA gC; obtain ⟨⟨r0, r1, r2, r3⟩, ⟨r4, r5, r6, r7⟩, ⟨r8, r9, ra, rb⟩⟩ := id sC) | (refine (hA2 _ (Kp.drew kw)).mono ?_; rintro e wC ⟨rfl, gC⟩; have kC := Kp.trans (Kp.drew kw) gC; have sC := H6.keep sw (Kp.trans (Kp.drew (Kp.refl _)) gC); obtain ⟨⟨r0, r1, r2, r3⟩, ⟨r4, r5, r6, r7⟩, ⟨r8, r9, ra, rb⟩⟩ := id sC)))
    all_goals go_wp2
    all_goals first
      | exact bodyPost_ret (v := .agg #[.float .f64 NL, .float .f64 NH]) (by simp [results, Tryz.results5, go_sem, r8, r9]) rfl ⟨rfl, (kA.setCell (by simp; omega) _).setCell (by simp; omega) _⟩
      | exact bodyPost_ret (v := .agg #[.float .f64 NL, .float .f64 NH]) (by simp [results, Tryz.results5, go_sem, r8, r9]) rfl ⟨rfl, (kC.setCell (by simp; omega) _).setCell (by simp; omega) _⟩
end Go.Proofs.YthmeefigiekneaaGreatDoor
