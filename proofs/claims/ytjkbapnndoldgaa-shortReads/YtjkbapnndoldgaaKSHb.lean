import Derived.Test.YtjkbapnndoldgaaKSHr
namespace Go.Proofs.Ytjkbapnndoldgaa
open Go.RowKit

set_option linter.unusedVariables false
namespace Sg
def Rd (a b : Nat) (L H : Int) : Prop := a < 4294967296 ∧ b < 4294967296 ∧ VdZ L H ∧ rlo a b = pw L ∧ rhi a b = pw H
theorem Rd.ex (a b : Nat) (ha : a < 4294967296) (hb : b < 4294967296) : ∃ L H, Rd a b L H := by
  obtain ⟨L, H, h1, h2, h3⟩ := read_pw a b ha hb
  exact ⟨L, H, ha, hb, h1, h2, h3⟩
theorem Rd.of {L H : Int} (h : VdZ L H) : Rd (pw L) (pw H) L H := ⟨pw_lt L h.lo, pw_lt H h.hi, h, (reread9 L H h).1, (reread9 L H h).2⟩
theorem Rd.vd {a b : Nat} {L H : Int} (h : Rd a b L H) : VdZ L H := h.2.2.1
end Sg
theorem sread_ (a b : Nat) (L H : Int) (h : Sg.Rd a b L H) (w : World) : Calls Try.prog 31 #[.agg #[.float .f32 a, .float .f32 b]] w fun e w' => e = .returned (.agg #[.float .f32 (Sg.pw L), .float .f32 (Sg.pw H)]) ∧ Kp w w' := by
  have g := read_s_ a b h.1 h.2.1 w
  rw [h.2.2.2.1, h.2.2.2.2] at g
  exact g
set_option maxRecDepth 20000 in
set_option maxHeartbeats 400000 in
theorem shReadA_ (a b c d : Nat) (h : ∀ w : World, Calls Try.prog 31 #[.agg #[.float .f32 a, .float .f32 b]] w fun e w' => e = .returned (.agg #[.float .f32 c, .float .f32 d]) ∧ Kp w w') (w : World) : Calls Try.prog 8 #[.agg #[.float .f32 a, .float .f32 b]] w fun e w' => e = .returned (.agg #[.float .f32 c, .float .f32 d]) ∧ Kp w w' := by
  go_enter Try.func8, Try.ntmps8
  go_wp2_with (first | (go_at_call 31; refine (h _).mono ?_; rintro e w1 ⟨rfl, g1⟩; have k1 : Kp w w1 := Kp.trans (((Kp.refl w).alloc _).alloc _) g1; obtain ⟨_, y0, y1, _, _⟩ := H48.keep (H48.new w (.float .f32 a) (.float .f32 b) (.float .f32 0) (.float .f32 0) 28 28) g1))
  exact bodyPost_ret (v := .agg #[.float .f32 c, .float .f32 d]) (by simp [results, Try.results8, go_sem, y0, y1]) rfl ⟨rfl, (k1.setCell (by simp <;> omega) _).setCell (by simp <;> omega) _⟩
theorem shRead_ (a b : Nat) (L H : Int) (h : Sg.Rd a b L H) (w : World) : Calls Try.prog 8 #[.agg #[.float .f32 a, .float .f32 b]] w fun e w' => e = .returned (.agg #[.float .f32 (Sg.pw L), .float .f32 (Sg.pw H)]) ∧ Kp w w' := shReadA_ a b _ _ (sread_ a b L H h) w
end Go.Proofs.Ytjkbapnndoldgaa
