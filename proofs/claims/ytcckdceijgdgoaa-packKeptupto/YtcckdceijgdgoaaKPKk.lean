import Derived.Test.YtcckdceijgdgoaaKNRa
import Derived.Test.YtcckdceijgdgoaaKPKd
import Derived.Test.YtcckdceijgdgoaaKPKi
import Derived.Test.YtcckdceijgdgoaaKPKj
namespace Go.Proofs.Ytcckdceijgdgoaa
open Go.RowKit
open Go
namespace B8
set_option maxRecDepth 20000 in
set_option maxHeartbeats 1000000 in
theorem rput_ (a b : Nat) (L H : Int) (hx : Rd a b L H) (w : World) : Calls Try.prog 24 #[.agg #[.int .u64 ((a : Nat) : Int), .int .u64 ((b : Nat) : Int)]] w fun e w' => ∃ v, e = .returned v ∧ Own w' w.heap.size v (by8 (pw L) ++ by8 (pw H)) ∧ Kp w w' := by
  have hr := rread9_ a b L H hx
  have hf := rform_ (pw L) (pw H) (pw_lt L hx.vd.lo) (pw_lt H hx.vd.hi)
  unfold pI at hr
  clear hx
  generalize by8 (pw L) ++ by8 (pw H) = xs at hf ⊢
  generalize ((pw L : Nat) : Int) = X at hr hf
  generalize ((pw H : Nat) : Int) = Y at hr hf
  generalize (a : Int) = P at hr ⊢
  generalize (b : Int) = Q at hr ⊢
  go_enter Try.func24, Try.ntmps24
  go_wp2_with (first | (go_at_call 13; refine (hr _).mono ?_; rintro e w1 ⟨rfl, g1⟩; have k1 : Kp w w1 := Kp.trans ((Kp.refl w).alloc _) g1) | (go_at_call 45; refine (hf _).mono ?_; rintro e w2 ⟨v, rfl, o2, g2⟩; have k2 := Kp.trans k1 g2; replace o2 := o2.mono (Below.size k1)))
  exact bodyPost_ret (v := v) (by simp [results, Try.results24, go_sem]) rfl ⟨_, rfl, o2, k2⟩
end B8

def H48 (w : World) (B : Nat) (a b c d : Value) : Prop := Fq.H2 w B a b ∧ Fq.H2 w (B + 1) c d
theorem H48.keep {W w : World} {B : Nat} {a b c d : Value} (h : H48 W B a b c d) (g : Kp W w) : H48 w B a b c d := ⟨Fq.H2.keep h.1 g, Fq.H2.keep h.2 g⟩
theorem H48.new (w : World) (a b c d : Value) (s t : TypeId) : H48 ((w.alloc (.cells #[a, b] s)).alloc (.cells #[c, d] t)) w.heap.size a b c d := by
  refine ⟨?_, ?_⟩ <;> (unfold Fq.H2; simp [go_sem])
theorem H48.put {w : World} {B : Nat} {a b c d : Value} (h : H48 w B a b c d) (a' b' c' d' : Value) : H48 ((((w.setCell ⟨B, 0, none⟩ a').setCell ⟨B, 1, none⟩ b').setCell ⟨B + 1, 0, none⟩ c').setCell ⟨B + 1, 1, none⟩ d') B a' b' c' d' := by
  refine ⟨?_, ?_⟩
  · exact Fq.H2.far (Fq.H2.put h.1 a' b') (by omega) c' d'
  · exact Fq.H2.put (Fq.H2.far h.2 (by omega) a' b') c' d'
end Go.Proofs.Ytcckdceijgdgoaa
