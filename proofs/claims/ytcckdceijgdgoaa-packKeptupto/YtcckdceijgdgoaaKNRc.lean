import Derived.Test.YtcckdceijgdgoaaKNRa
namespace Go.Proofs.Ytcckdceijgdgoaa
open Go.RowKit

def H6 (w : World) (B : Nat) (a b c d e f : Value) : Prop := Fq.H2 w B a b ∧ Fq.H2 w (B + 1) c d ∧ Fq.H2 w (B + 2) e f
theorem H6.keep {W w : World} {B : Nat} {a b c d e f : Value} (h : H6 W B a b c d e f) (g : Kp W w) : H6 w B a b c d e f := ⟨Fq.H2.keep h.1 g, Fq.H2.keep h.2.1 g, Fq.H2.keep h.2.2 g⟩
theorem H6.new (w : World) (a b c d e f : Value) (s t u : TypeId) : H6 (((w.alloc (.cells #[a, b] s)).alloc (.cells #[c, d] t)).alloc (.cells #[e, f] u)) w.heap.size a b c d e f := by
  refine ⟨?_, ?_, ?_⟩ <;> (unfold Fq.H2; simp [go_sem])
theorem H6.put {w : World} {B : Nat} {a b c d e f : Value} (h : H6 w B a b c d e f) (a' b' c' d' : Value) : H6 ((((w.setCell ⟨B, 0, none⟩ a').setCell ⟨B, 1, none⟩ b').setCell ⟨B + 1, 0, none⟩ c').setCell ⟨B + 1, 1, none⟩ d') B a' b' c' d' e f := by
  refine ⟨?_, ?_, ?_⟩
  · exact Fq.H2.far (Fq.H2.put h.1 a' b') (by omega) c' d'
  · exact Fq.H2.put (Fq.H2.far h.2.1 (by omega) a' b') c' d'
  · exact Fq.H2.far (Fq.H2.far h.2.2 (by omega) a' b') (by omega) c' d'
set_option maxRecDepth 20000 in
set_option maxHeartbeats 2000000 in
theorem isempA_ (a b ZL ZH : Nat) (V : Bool) (hx : ∀ w : World, Calls Try.prog 31 #[.agg #[.float .f64 a, .float .f64 b]] w fun e w' => e = .returned (.agg #[.float .f64 ZL, .float .f64 ZH]) ∧ Kp w w') (hv : ∀ w : World, Calls Try.prog 64 #[.agg #[.float .f64 ZL, .float .f64 ZH]] w fun e w' => e = .returned (.bool V) ∧ Kp w w') (w : World) : Calls Try.prog 53 #[.agg #[.float .f64 a, .float .f64 b]] w fun e w' => e = .returned (.bool V) ∧ Kp w w' := by
  go_enter Try.func53, Try.ntmps53
  go_wp2_with (first | (go_at_call 31; refine (hx _).mono ?_; rintro e w1 ⟨rfl, g1⟩; have k1 : Kp w w1 := Kp.trans ((Kp.refl w).alloc _) g1) | (go_at_call 64; refine (hv _).mono ?_; rintro e w2 ⟨rfl, g2⟩; have k2 : Kp w w2 := Kp.trans k1 g2))
  exact bodyPost_ret (v := .bool V) (by simp [results, Try.results53, go_sem]) rfl ⟨rfl, k2⟩
theorem isemp9_ (a b : Nat) (L H : Int) (hx : Rd a b L H) (w : World) : Calls Try.prog 53 #[.agg #[.float .f64 a, .float .f64 b]] w fun e w' => e = .returned (.bool (decide (L = 9218868437227405312))) ∧ Kp w w' :=
  isempA_ a b _ _ _ hx.call (void9_ L H hx.vd) w
end Go.Proofs.Ytcckdceijgdgoaa
