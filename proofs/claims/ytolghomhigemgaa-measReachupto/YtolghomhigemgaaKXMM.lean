import Derived.Test.YtolghomhigemgaaProg
import Derived.Test.YtolghomhigemgaaKXA0
import Derived.Test.YtolghomhigemgaaKXM
import Derived.Test.YtolghomhigemgaaKXY
import Derived.Test.YtolghomhigemgaaKXQF
import Derived.Test.YtolghomhigemgaaKQA
import Derived.Test.YtolghomhigemgaaKXQU
import Derived.Test.YtolghomhigemgaaKXEA
import Derived.Test.YtolghomhigemgaaKXEE
import Derived.Test.YtolghomhigemgaaKMR7Q
import Derived.Test.YtolghomhigemgaaKXMR
import Derived.Test.YtolghomhigemgaaKXM3
import Derived.Test.YtolghomhigemgaaKXO
import Derived.Test.YtolghomhigemgaaKXO3
import Derived.Test.YtolghomhigemgaaKXME
import Derived.WalkKit
import Derived.ProofKit
import Derived.RowKit3
import Derived.WalkSpells
import Derived.StillTactics
import Derived.Deep.QuietTactic
import Derived.BigQuiet
import Derived.Below
import Derived.Deep.OwnRows
import Derived.OwnWalk
import Derived.Laws.BitsAllLaws
import Derived.Laws.Slices
import Derived.Laws.Bits64b
import Derived.Laws.FloatArith
import Derived.Deep.RegionHeld3
namespace Go.Proofs.Ytolghomhigemgaa
open Go.RowKit
set_option maxRecDepth 20000 in
set_option maxHeartbeats 1000000 in
theorem magN_ (a b LO HI : Nat) (hr : ∀ w : World, Calls Try.prog 16 #[.agg #[.float .f64 a, .float .f64 b]] w fun e w' => e = .returned (.agg #[.float .f64 LO, .float .f64 HI]) ∧ Kp w w') (hv : ∀ w : World, Calls Try.prog 17 #[.agg #[.float .f64 LO, .float .f64 HI]] w fun e w' => e = .returned (.bool true) ∧ Kp w w') (w : World) : Calls Try.prog 4 #[.agg #[.float .f64 a, .float .f64 b]] w fun e w' => e = .returned (.float .f64 9221120237041090561) ∧ Kp w w' := by
  go_enter Try.func4, Try.ntmps4
  go_wp2_with (first | (go_at_call 16; refine (hr _).mono ?_; rintro e w1 ⟨rfl, g1⟩; have q0 := Fq.H2.keep (Fq.H2.new w (.float .f64 a) (.float .f64 b) 31) g1; have kw : Kp w w1 := Kp.trans ((Kp.refl w).alloc _) g1; obtain ⟨x0, x1, x2, x3⟩ := id q0) | (go_at_call 17; refine (hv _).mono ?_; rintro e w2 ⟨rfl, g2⟩; have qx := Fq.H2.keep (Fq.H2.put q0 (.float .f64 LO) (.float .f64 HI)) g2; have kv : Kp w w2 := Kp.trans ((kw.setCell (Nat.le_refl _) _).setCell (Nat.le_refl _) _) g2; obtain ⟨u0, u1, u2, u3⟩ := id qx) | (go_at_call 18; refine (nan8_ _).mono ?_; rintro e w3 ⟨rfl, g3⟩; have kn : Kp w w3 := Kp.trans kv g3))
  exact bodyPost_ret (v := .float .f64 9221120237041090561) (by simp [results, Try.results4, go_sem]) rfl ⟨rfl, kn⟩
set_option maxRecDepth 20000 in
set_option maxHeartbeats 1000000 in
theorem migN_ (a b LO HI : Nat) (hr : ∀ w : World, Calls Try.prog 16 #[.agg #[.float .f64 a, .float .f64 b]] w fun e w' => e = .returned (.agg #[.float .f64 LO, .float .f64 HI]) ∧ Kp w w') (hv : ∀ w : World, Calls Try.prog 17 #[.agg #[.float .f64 LO, .float .f64 HI]] w fun e w' => e = .returned (.bool true) ∧ Kp w w') (w : World) : Calls Try.prog 7 #[.agg #[.float .f64 a, .float .f64 b]] w fun e w' => e = .returned (.float .f64 9221120237041090561) ∧ Kp w w' := by
  go_enter Try.func7, Try.ntmps7
  go_wp2_with (first | (go_at_call 16; refine (hr _).mono ?_; rintro e w1 ⟨rfl, g1⟩; have q0 := Fq.H2.keep (Fq.H2.new w (.float .f64 a) (.float .f64 b) 31) g1; have kw : Kp w w1 := Kp.trans ((Kp.refl w).alloc _) g1; obtain ⟨x0, x1, x2, x3⟩ := id q0) | (go_at_call 17; refine (hv _).mono ?_; rintro e w2 ⟨rfl, g2⟩; have qx := Fq.H2.keep (Fq.H2.put q0 (.float .f64 LO) (.float .f64 HI)) g2; have kv : Kp w w2 := Kp.trans ((kw.setCell (Nat.le_refl _) _).setCell (Nat.le_refl _) _) g2; obtain ⟨u0, u1, u2, u3⟩ := id qx) | (go_at_call 18; refine (nan8_ _).mono ?_; rintro e w3 ⟨rfl, g3⟩; have kn : Kp w w3 := Kp.trans kv g3))
  exact bodyPost_ret (v := .float .f64 9221120237041090561) (by simp [results, Try.results7, go_sem]) rfl ⟨rfl, kn⟩
set_option maxRecDepth 20000 in
set_option maxHeartbeats 1000000 in
theorem magS_ (a b LO HI : Nat) (hr : ∀ w : World, Calls Try.prog 16 #[.agg #[.float .f64 a, .float .f64 b]] w fun e w' => e = .returned (.agg #[.float .f64 LO, .float .f64 HI]) ∧ Kp w w') (hv : ∀ w : World, Calls Try.prog 17 #[.agg #[.float .f64 LO, .float .f64 HI]] w fun e w' => e = .returned (.bool false) ∧ Kp w w') (A9 B9 G9 : Nat) (h1 : ∀ w : World, Calls Try.prog 20 #[.float .f64 LO] w fun e w' => e = .returned (.float .f64 A9) ∧ w' = w) (h2 : ∀ w : World, Calls Try.prog 20 #[.float .f64 HI] w fun e w' => e = .returned (.float .f64 B9) ∧ w' = w) (h3 : ∀ w : World, Calls Try.prog 19 #[.float .f64 A9, .float .f64 B9] w fun e w' => e = .returned (.float .f64 G9) ∧ w' = w) (w : World) : Calls Try.prog 4 #[.agg #[.float .f64 a, .float .f64 b]] w fun e w' => e = .returned (.float .f64 G9) ∧ Kp w w' := by
  go_enter Try.func4, Try.ntmps4
  go_wp2_with (first | (go_at_call 16; refine (hr _).mono ?_; rintro e w1 ⟨rfl, g1⟩; have q0 := Fq.H2.keep (Fq.H2.new w (.float .f64 a) (.float .f64 b) 31) g1; have kw : Kp w w1 := Kp.trans ((Kp.refl w).alloc _) g1; obtain ⟨x0, x1, x2, x3⟩ := id q0) | (go_at_call 17; refine (hv _).mono ?_; rintro e w2 ⟨rfl, g2⟩; have qx := Fq.H2.keep (Fq.H2.put q0 (.float .f64 LO) (.float .f64 HI)) g2; have kv : Kp w w2 := Kp.trans ((kw.setCell (Nat.le_refl _) _).setCell (Nat.le_refl _) _) g2; obtain ⟨u0, u1, u2, u3⟩ := id qx))
  go_quiet (first | (go_at_call_of 20 (Value.float .f64 LO); exact Calls.quiet_of_same (h1 _)) | (go_at_call_of 20 (Value.float .f64 HI); exact Calls.quiet_of_same (h2 _)) | (go_at_call 19; exact Calls.quiet_of_same (h3 _)))
  go_wp2
  exact bodyPost_ret (v := .float .f64 G9) (by simp [results, Try.results4, go_sem]) rfl ⟨rfl, (by repeat (with_reducible (first | assumption | exact Kp.refl _ | apply Kp.drew | apply Kp.alloc | apply Kp.drewN | (refine Kp.setCell ?_ (by first | omega | (simp <;> omega)) _) | (refine Kp.trans ?_ (by assumption)))))⟩
set_option maxRecDepth 20000 in
set_option maxHeartbeats 1000000 in
theorem mig1_ (a b LO HI : Nat) (hr : ∀ w : World, Calls Try.prog 16 #[.agg #[.float .f64 a, .float .f64 b]] w fun e w' => e = .returned (.agg #[.float .f64 LO, .float .f64 HI]) ∧ Kp w w') (hv : ∀ w : World, Calls Try.prog 17 #[.agg #[.float .f64 LO, .float .f64 HI]] w fun e w' => e = .returned (.bool false) ∧ Kp w w') (t1 : (FloatKind.f64.format.order LO 0 == some Ordering.gt) = true) (w : World) : Calls Try.prog 7 #[.agg #[.float .f64 a, .float .f64 b]] w fun e w' => e = .returned (.float .f64 LO) ∧ Kp w w' := by
  go_enter Try.func7, Try.ntmps7
  go_wp2_with (first | (go_at_call 16; refine (hr _).mono ?_; rintro e w1 ⟨rfl, g1⟩; have q0 := Fq.H2.keep (Fq.H2.new w (.float .f64 a) (.float .f64 b) 31) g1; have kw : Kp w w1 := Kp.trans ((Kp.refl w).alloc _) g1; obtain ⟨x0, x1, x2, x3⟩ := id q0) | (go_at_call 17; refine (hv _).mono ?_; rintro e w2 ⟨rfl, g2⟩; have qx := Fq.H2.keep (Fq.H2.put q0 (.float .f64 LO) (.float .f64 HI)) g2; have kv : Kp w w2 := Kp.trans ((kw.setCell (Nat.le_refl _) _).setCell (Nat.le_refl _) _) g2; obtain ⟨u0, u1, u2, u3⟩ := id qx))
  exact bodyPost_ret (v := .float .f64 LO) (by simp [results, Try.results7, go_sem]) rfl ⟨rfl, kv⟩
set_option maxRecDepth 20000 in
set_option maxHeartbeats 1000000 in
theorem mig2_ (a b LO HI : Nat) (hr : ∀ w : World, Calls Try.prog 16 #[.agg #[.float .f64 a, .float .f64 b]] w fun e w' => e = .returned (.agg #[.float .f64 LO, .float .f64 HI]) ∧ Kp w w') (hv : ∀ w : World, Calls Try.prog 17 #[.agg #[.float .f64 LO, .float .f64 HI]] w fun e w' => e = .returned (.bool false) ∧ Kp w w') (G9 : Nat) (hg : ∀ w : World, (Op.unary .neg (.float .f64 HI)).run Try.prog w = .ok (.float .f64 G9) w) (t1 : (FloatKind.f64.format.order LO 0 == some Ordering.gt) = false) (t2 : (FloatKind.f64.format.order HI 0 == some Ordering.lt) = true) (w : World) : Calls Try.prog 7 #[.agg #[.float .f64 a, .float .f64 b]] w fun e w' => e = .returned (.float .f64 G9) ∧ Kp w w' := by
  go_enter Try.func7, Try.ntmps7
  go_wp2_with (first | (go_at_call 16; refine (hr _).mono ?_; rintro e w1 ⟨rfl, g1⟩; have q0 := Fq.H2.keep (Fq.H2.new w (.float .f64 a) (.float .f64 b) 31) g1; have kw : Kp w w1 := Kp.trans ((Kp.refl w).alloc _) g1; obtain ⟨x0, x1, x2, x3⟩ := id q0) | (go_at_call 17; refine (hv _).mono ?_; rintro e w2 ⟨rfl, g2⟩; have qx := Fq.H2.keep (Fq.H2.put q0 (.float .f64 LO) (.float .f64 HI)) g2; have kv : Kp w w2 := Kp.trans ((kw.setCell (Nat.le_refl _) _).setCell (Nat.le_refl _) _) g2; obtain ⟨u0, u1, u2, u3⟩ := id qx))
  exact bodyPost_ret (v := .float .f64 G9) (by simp [results, Try.results7, go_sem]) rfl ⟨rfl, kv⟩
set_option maxRecDepth 20000 in
set_option maxHeartbeats 1000000 in
theorem mig3_ (a b LO HI : Nat) (hr : ∀ w : World, Calls Try.prog 16 #[.agg #[.float .f64 a, .float .f64 b]] w fun e w' => e = .returned (.agg #[.float .f64 LO, .float .f64 HI]) ∧ Kp w w') (hv : ∀ w : World, Calls Try.prog 17 #[.agg #[.float .f64 LO, .float .f64 HI]] w fun e w' => e = .returned (.bool false) ∧ Kp w w') (t1 : (FloatKind.f64.format.order LO 0 == some Ordering.gt) = false) (t2 : (FloatKind.f64.format.order HI 0 == some Ordering.lt) = false) (w : World) : Calls Try.prog 7 #[.agg #[.float .f64 a, .float .f64 b]] w fun e w' => e = .returned (.float .f64 0) ∧ Kp w w' := by
  go_enter Try.func7, Try.ntmps7
  go_wp2_with (first | (go_at_call 16; refine (hr _).mono ?_; rintro e w1 ⟨rfl, g1⟩; have q0 := Fq.H2.keep (Fq.H2.new w (.float .f64 a) (.float .f64 b) 31) g1; have kw : Kp w w1 := Kp.trans ((Kp.refl w).alloc _) g1; obtain ⟨x0, x1, x2, x3⟩ := id q0) | (go_at_call 17; refine (hv _).mono ?_; rintro e w2 ⟨rfl, g2⟩; have qx := Fq.H2.keep (Fq.H2.put q0 (.float .f64 LO) (.float .f64 HI)) g2; have kv : Kp w w2 := Kp.trans ((kw.setCell (Nat.le_refl _) _).setCell (Nat.le_refl _) _) g2; obtain ⟨u0, u1, u2, u3⟩ := id qx))
  exact bodyPost_ret (v := .float .f64 0) (by simp [results, Try.results7, go_sem]) rfl ⟨rfl, kv⟩
end Go.Proofs.Ytolghomhigemgaa
