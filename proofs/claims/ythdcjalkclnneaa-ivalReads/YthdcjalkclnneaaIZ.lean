import Derived.Test.YthdcjalkclnneaaProg
import Derived.Test.YthdcjalkclnneaaM
import Derived.Test.YthdcjalkclnneaaA
import Derived.Test.YthdcjalkclnneaaIM
import Derived.Test.YthdcjalkclnneaaIA
import Derived.Test.YthdcjalkclnneaaIB
import Derived.Test.YthdcjalkclnneaaIC
import Derived.Test.YthdcjalkclnneaaIH
import Derived.Test.YthdcjalkclnneaaIN
import Derived.Test.YthdcjalkclnneaaIG
import Derived.Test.YthdcjalkclnneaaIR
import Derived.Test.YthdcjalkclnneaaIS
import Derived.Test.YthdcjalkclnneaaIV
import Derived.Test.YthdcjalkclnneaaIU
import Derived.Test.YthdcjalkclnneaaIX
import Derived.WalkKit
import Derived.ProofKit
import Derived.RowKit3
import Derived.Deep.RegionHeld3
import Derived.WalkSpells
import Derived.StillTactics
import Derived.Laws.FloatArith
import Derived.Deep.QuietTactic
import Derived.BigQuiet
namespace Go.Proofs.Ythdcjalkclnneaa
open Go.RowKit
set_option maxRecDepth 20000 in
set_option maxHeartbeats 4000000 in
theorem reads_ (n n' : Bool) (m m' : Nat) (hm : m < 9223372036854775808) (hm' : m' < 9223372036854775808) (w : World) : Calls Try.prog 4 #[.agg #[.int .u64 (((wD n m) : Nat) : Int), .int .u64 (((wD n' m') : Nat) : Int)]] w fun e w' => e = .returned (.bool true) ∧ Grown w w' := by
  have bX : wD n m < 18446744073709551616 := by unfold wD; split <;> omega
  have bY : wD n' m' < 18446744073709551616 := by unfold wD; split <;> omega
  have hin := in_ (wD n m) (wD n' m')
  have hva := valid_ (wD n m) (wD n' m') bX bY
  have hrv := rvalid_ n n' m m' hm hm'
  have hrd := read_ (wD n m) (wD n' m') bX bY
  have hrr := rread_ n n' m m' hm hm'
  have hou := out_ (rlo (wD n m) (wD n' m')) (rhi (wD n m) (wD n' m'))
  have oe : ∀ w : World, Calls Try.prog 8 #[.agg #[.float .f64 9218868437227405312, .float .f64 18442240474082181120]] w fun e w' => e = .returned (.agg #[.int .u64 9218868437227405312, .int .u64 18442240474082181120]) ∧ Grown w w' := out_ 9218868437227405312 18442240474082181120
  have on : ∀ w : World, Calls Try.prog 8 #[.agg #[.float .f64 18442240474082181120, .float .f64 9218868437227405312]] w fun e w' => e = .returned (.agg #[.int .u64 18442240474082181120, .int .u64 9218868437227405312]) ∧ Grown w w' := out_ 18442240474082181120 9218868437227405312
  clear hm hm' bX bY
  generalize vld (wD n m) (wD n' m') = V at hva hrv
  generalize rlo (wD n m) (wD n' m') = LO at hrd hrr hou
  generalize rhi (wD n m) (wD n' m') = HI at hrd hrr hou
  generalize wD n m = a at hin hva hrv hrd hrr ⊢
  generalize wD n' m' = b at hin hva hrv hrd hrr ⊢
  generalize (a : Int) = X at hin hrv hrr ⊢
  generalize (b : Int) = Y at hin hrv hrr ⊢
  generalize (LO : Int) = LX at hrr hou
  generalize (HI : Int) = HX at hrr hou
  cases V
  all_goals (
    go_enter Try.func4, Try.ntmps4
    go_wp2
    refine wp_region_grow (by kernel_rfl) (by kernel_rfl) (fun ι _ G hG hall => ?_)
    have c0 : ∀ n, (G n).cell? ⟨w.heap.size, 0, none⟩ = some (.int .u64 X) := fun n => gkeep (hG n) (by simp [go_sem])
    have c1 : ∀ n, (G n).cell? ⟨w.heap.size, 1, none⟩ = some (.int .u64 Y) := fun n => gkeep (hG n) (by simp [go_sem])
    repeat (go_big_quiet_step (first | (go_at_call 11; exact (hin _).mono (fun e w' h => ⟨h.1, hall _ (gtrans (hG _) h.2)⟩)) | (go_at_call 10; exact (hva _).mono (fun e w' h => ⟨h.1, hall _ (gtrans (hG _) h.2)⟩)) | (go_at_call 12; exact (hrv _).mono (fun e w' h => ⟨h.1, hall _ (gtrans (hG _) h.2)⟩)) | (go_at_call 13; exact (hrd _).mono (fun e w' h => ⟨h.1, hall _ (gtrans (hG _) h.2)⟩)) | (go_at_call 8; exact (hou _).mono (fun e w' h => ⟨h.1, hall _ (gtrans (hG _) h.2)⟩)) | (go_at_call 14; exact (hrr _).mono (fun e w' h => ⟨h.1, hall _ (gtrans (hG _) h.2)⟩))))
    refine wpQuiet_nil ?_
    rintro _ ⟨nq, rfl⟩
    have gq := hG nq
    clear c0 c1 hall
    go_wp2_with (first | (go_at_call 15; refine (empty6_ _).mono ?_; rintro e w' ⟨rfl, rfl⟩) | (go_at_call 17; refine (entire6_ _).mono ?_; rintro e w' ⟨rfl, rfl⟩) | (go_at_call 16; refine (rempty_ _).mono ?_; rintro e w' ⟨rfl, rfl⟩) | (go_at_call 18; refine (rentire_ _).mono ?_; rintro e w' ⟨rfl, rfl⟩) | (go_at_call 8; (first | refine (oe _).mono ?_ | refine (on _).mono ?_); rintro e w' ⟨rfl, g9⟩))
    exact bodyPost_ret (v := .bool true) (by simp [results, Try.results4, go_sem] <;> simp only [*]) rfl ⟨rfl, (by repeat (with_reducible (first | assumption | exact Grown.refl _ | apply Grown.drew | apply Grown.alloc | apply gdrewN | (refine Grown.setCell ?_ (by simp <;> omega) _) | (refine gtrans ?_ (by assumption)))))⟩)
end Go.Proofs.Ythdcjalkclnneaa
