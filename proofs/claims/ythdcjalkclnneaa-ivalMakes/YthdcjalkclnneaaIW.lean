import Derived.Test.YthdcjalkclnneaaProg
import Derived.Test.YthdcjalkclnneaaM
import Derived.Test.YthdcjalkclnneaaA
import Derived.Test.YthdcjalkclnneaaIM
import Derived.Test.YthdcjalkclnneaaIA
import Derived.Test.YthdcjalkclnneaaIB
import Derived.Test.YthdcjalkclnneaaIC
import Derived.Test.YthdcjalkclnneaaIH
import Derived.WalkKit
import Derived.ProofKit
import Derived.RowKit3
import Derived.Deep.RegionHeld3
import Derived.WalkSpells
import Derived.StillTactics
import Derived.Laws.FloatArith
import Derived.Deep.QuietTactic
import Derived.BigQuiet
namespace Go.Proofs.Ythdcjalkclnneaa
open Go.RowKit
set_option maxRecDepth 20000 in
set_option maxHeartbeats 1000000 in
theorem new_ (a b : Nat) (ha : a < 18446744073709551616) (hb : b < 18446744073709551616) (w : World) : Calls Try.prog 5 #[.float .f64 a, .float .f64 b] w fun e w' => e = .returned (.tuple #[.agg #[.float .f64 (nlo a b), .float .f64 (nhi a b)], .int .i64 (ner a b)]) ∧ Grown w w' := by
  have hr := read_ a b ha hb
  have hv := void_ (rlo a b) (rhi a b) (rlo_lt a b ha) (rhi_lt a b hb)
  rw [void_read] at hv
  by_cases c : snd a b = true
  · rw [c] at hv
    rw [show nlo a b = rlo a b from by simp [nlo, rlo, c], show nhi a b = rhi a b from by simp [nhi, rhi, c], show ner a b = 0 from by simp [ner, c]]
    clear c ha hb
    generalize rlo a b = LO at hr hv ⊢
    generalize rhi a b = HI at hr hv ⊢
    go_enter Try.func5, Try.ntmps5
    go_wp2_with (first | (go_at_call 13; refine (hr _).mono ?_; rintro e w1 ⟨rfl, g1⟩; have q0 := (H2.new w (.float .f64 0) (.float .f64 0) 27).keep g1) | (go_at_call 19; refine (hv _).mono ?_; rintro e w3 ⟨rfl, g2⟩; obtain ⟨k0, k1, z0, z1⟩ := ((H2.past q0 #[.float .f64 LO, .float .f64 HI] 27)).keep g2; obtain ⟨x0, x1, y0, y1⟩ := (H2.new w1 (.float .f64 LO) (.float .f64 HI) 27).keep g2))
    exact bodyPost_ret (v := .tuple #[.agg #[.float .f64 LO, .float .f64 HI], .int .i64 0]) (by simp [results, Try.results5, go_sem, k0, k1]) rfl ⟨rfl, (by repeat (with_reducible (first | assumption | exact Grown.refl _ | apply Grown.drew | apply Grown.alloc | apply gdrewN | (refine Grown.setCell ?_ (by simp <;> omega) _) | (refine gtrans ?_ (by assumption)))))⟩
  · have c : snd a b = false := by simpa using c
    rw [c] at hv
    rw [show nlo a b = 0 from by simp [nlo, c], show nhi a b = 0 from by simp [nhi, c], show ner a b = 1 from by simp [ner, c]]
    clear c ha hb
    generalize rlo a b = LO at hr hv ⊢
    generalize rhi a b = HI at hr hv ⊢
    go_enter Try.func5, Try.ntmps5
    go_wp2_with (first | (go_at_call 13; refine (hr _).mono ?_; rintro e w1 ⟨rfl, g1⟩; have q0 := (H2.new w (.float .f64 0) (.float .f64 0) 27).keep g1) | (go_at_call 19; refine (hv _).mono ?_; rintro e w3 ⟨rfl, g2⟩; obtain ⟨k0, k1, z0, z1⟩ := ((H2.past q0 #[.float .f64 LO, .float .f64 HI] 27)).keep g2; obtain ⟨x0, x1, y0, y1⟩ := (H2.new w1 (.float .f64 LO) (.float .f64 HI) 27).keep g2))
    exact bodyPost_ret (v := .tuple #[.agg #[.float .f64 0, .float .f64 0], .int .i64 1]) (by simp [results, Try.results5, go_sem, k0, k1]) rfl ⟨rfl, (by repeat (with_reducible (first | assumption | exact Grown.refl _ | apply Grown.drew | apply Grown.alloc | apply gdrewN | (refine Grown.setCell ?_ (by simp <;> omega) _) | (refine gtrans ?_ (by assumption)))))⟩
end Go.Proofs.Ythdcjalkclnneaa
