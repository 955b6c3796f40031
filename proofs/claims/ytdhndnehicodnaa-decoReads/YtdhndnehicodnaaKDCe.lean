import Derived.Test.YtdhndnehicodnaaProg
import Derived.Test.YtdhndnehicodnaaKXA0
import Derived.Test.YtdhndnehicodnaaKQM
import Derived.Test.YtdhndnehicodnaaKQA
import Derived.Test.YtdhndnehicodnaaKXQU
import Derived.Test.YtdhndnehicodnaaKEM
import Derived.Test.YtdhndnehicodnaaKEN
import Derived.Test.YtdhndnehicodnaaKEA
import Derived.Test.YtdhndnehicodnaaKEB
import Derived.Test.YtdhndnehicodnaaKEH
import Derived.Test.YtdhndnehicodnaaKEK
import Derived.Test.YtdhndnehicodnaaKEO
import Derived.Test.YtdhndnehicodnaaKER
import Derived.Test.YtdhndnehicodnaaKES
import Derived.Test.YtdhndnehicodnaaKNRv
import Derived.Test.YtdhndnehicodnaaKNRm
import Derived.Test.YtdhndnehicodnaaKNRa
import Derived.Test.YtdhndnehicodnaaKNRb
import Derived.Test.YtdhndnehicodnaaKNRc
import Derived.Test.YtdhndnehicodnaaKNRj
import Derived.Test.YtdhndnehicodnaaKNKa
import Derived.Test.YtdhndnehicodnaaKDCa
import Derived.Test.YtdhndnehicodnaaKDCb
import Derived.WalkKit
import Derived.ProofKit
import Derived.RowKit3
import Derived.WalkSpells
import Derived.StillTactics
import Derived.Deep.QuietTactic
import Derived.BigQuiet
import Derived.Below
import Derived.Deep.OwnRows
import Derived.OwnWalk
import Derived.Laws.BitsAllLaws
import Derived.Laws.Slices
import Derived.Laws.Bits64b
import Derived.Laws.FloatArith
import Derived.Deep.RegionHeld3
import Derived.Deep.CutRange
import Derived.Deep.DeepCutAuto
namespace Go.Proofs.Ytdhndnehicodnaa
open Go.RowKit
set_option maxRecDepth 20000 in
set_option maxHeartbeats 1000000 in
theorem bounded_ (X Y : Int) (E1 E2 : Bool) (t1 : (X != 18442240474082181120) = E1) (t2 : (Y != 9218868437227405312) = E2) (w : World) : Calls Try.prog 23 #[.agg #[.int .u64 X, .int .u64 Y]] w fun e w' => e = .returned (.bool (E1 && E2)) ∧ Kp w w' := by
  cases E1 <;> cases E2
  all_goals (
    go_enter Try.func23, Try.ntmps23
    go_wp2
    exact bodyPost_ret (v := .bool _) (by simp [results, Try.results23, go_sem]) rfl ⟨rfl, (by repeat (with_reducible (first | assumption | exact Kp.refl _ | apply Kp.drew | apply Kp.alloc | apply Kp.drewN | (refine Kp.setCell ?_ (by first | omega | (simp <;> omega)) _) | (refine Kp.trans ?_ (by assumption)))))⟩)
set_option maxRecDepth 20000 in
set_option maxHeartbeats 1000000 in
theorem rdread0_ (X1 X2 D : Int) (t1 : (D != 4) = true) (t2 : (D != 8) = true) (t3 : (D != 12) = true) (t4 : (D != 16) = true) (w : World) : Calls Try.prog 7 #[.agg #[.int .u64 X1, .int .u64 X2, .int .i64 D]] w fun e w' => e = .returned (.agg #[.int .u64 9218868437227405312, .int .u64 18442240474082181120, .int .i64 0]) ∧ Kp w w' := by
  go_enter Try.func7, Try.ntmps7
  go_wp2_with (first | (go_at_call 13; refine (rnai_ _).mono ?_; rintro e w5 ⟨rfl, g5⟩; have k5 : Kp w w5 := Kp.trans (((Kp.refl w).alloc _).alloc _) g5; obtain ⟨r0, r1, r2, r3, r4, r5⟩ := H3c.keep (H3c.two w #[.int .u64 X1, .int .u64 X2, .int .i64 D] (.int .u64 0) (.int .u64 0) (.int .i64 0) 26 26) g5))
  exact bodyPost_ret (v := .agg #[.int .u64 9218868437227405312, .int .u64 18442240474082181120, .int .i64 0]) (by simp [results, Try.results7, go_sem, r0, r1, r2]) rfl ⟨rfl, (((k5.setCell (by simp) _).setCell (by simp) _).setCell (by simp) _)⟩
end Go.Proofs.Ytdhndnehicodnaa
