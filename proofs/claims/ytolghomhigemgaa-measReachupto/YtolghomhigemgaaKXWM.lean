import Derived.Test.YtolghomhigemgaaProg
import Derived.Test.YtolghomhigemgaaKXA0
import Derived.Test.YtolghomhigemgaaKXQF
import Derived.Test.YtolghomhigemgaaKQA
import Derived.Test.YtolghomhigemgaaKXQU
import Derived.Test.YtolghomhigemgaaKXEA
import Derived.Test.YtolghomhigemgaaKXNR
import Derived.Test.YtolghomhigemgaaKXM
import Derived.Test.YtolghomhigemgaaKXY
import Derived.Test.YtolghomhigemgaaKXEE
import Derived.Test.YtolghomhigemgaaKMR7Q
import Derived.Test.YtolghomhigemgaaKXMR
import Derived.Test.YtolghomhigemgaaKXM3
import Derived.Test.YtolghomhigemgaaKXO
import Derived.Test.YtolghomhigemgaaKXO3
import Derived.Test.YtolghomhigemgaaKXT
import Derived.Test.YtolghomhigemgaaKXLB
import Derived.Test.YtolghomhigemgaaKRX
import Derived.Test.YtolghomhigemgaaKXRL
import Derived.Test.YtolghomhigemgaaKXCO
import Derived.Test.YtolghomhigemgaaKLN
import Derived.Test.YtolghomhigemgaaKXRN
import Derived.Test.YtolghomhigemgaaKW4
import Derived.Test.YtolghomhigemgaaKBY
import Derived.Test.YtolghomhigemgaaKBW
import Derived.Test.YtolghomhigemgaaKXTZ
import Derived.Test.YtolghomhigemgaaKXG1
import Derived.Test.YtolghomhigemgaaKNSm
import Derived.Test.YtolghomhigemgaaKXH2Q
import Derived.Test.YtolghomhigemgaaKXG4
import Derived.Test.YtolghomhigemgaaKEKF
import Derived.Test.YtolghomhigemgaaKXET
import Derived.Test.YtolghomhigemgaaKXEG
import Derived.Test.YtolghomhigemgaaKXEC
import Derived.Test.YtolghomhigemgaaKXWR
import Derived.Test.YtolghomhigemgaaKXWS
import Derived.Test.YtolghomhigemgaaKXME
import Derived.WalkKit
import Derived.ProofKit
import Derived.RowKit3
import Derived.WalkSpells
import Derived.StillTactics
import Derived.Deep.QuietTactic
import Derived.BigQuiet
import Derived.Below
import Derived.Deep.OwnRows
import Derived.OwnWalk
import Derived.Laws.BitsAllLaws
import Derived.Laws.Slices
import Derived.Laws.Bits64b
import Derived.Laws.FloatArith
import Derived.Deep.RegionHeld3
import Derived.Deep.CutRange
import Derived.Deep.DeepCutAuto
namespace Go.Proofs.Ytolghomhigemgaa
open Go.RowKit
set_option linter.unusedVariables false
set_option linter.unusedSimpArgs false
set_option maxRecDepth 20000 in
set_option maxHeartbeats 2000000 in
theorem reachE_ (X1 X2 P1 P2 : Int) (A1 A2 LO HI : Nat) (s3 : Bool) (p3 : Option Addr) (l3 c3 : Nat) (q3 : Option Addr) (k3 d3 : Nat) (RWp : World → Prop) (hkr : ∀ W W' : World, Kp W W' → RWp W → RWp W') (hm3 : ∀ w : World, Calls Try.prog 4 #[.agg #[.float .f64 13837309855095848960, .float .f64 4611686018427387904]] w fun e w' => e = .returned (.float .f64 4613937818241073152) ∧ Kp w w') (hr : ∀ w : World, Calls Try.prog 5 #[.agg #[.int .u64 X1, .int .u64 X2]] w fun e w' => e = .returned (.agg #[.int .u64 P1, .int .u64 P2]) ∧ Kp w w') (t1 : (P1 == 9218868437227405312) = true) (t2 : (P2 == 18442240474082181120) = true) (w : World) (hz0 : RWp w) : Calls Try.prog 3 #[.agg #[.int .u64 X1, .int .u64 X2], .agg #[.bool s3, .slice p3 l3 c3, .slice q3 k3 d3]] w fun e w' => e = .returned (.bool true) ∧ Kp w w' := by
  have t3 : (FloatKind.f64.format.order 4613937818241073152 4613937818241073152 == some Ordering.eq) = true := by decide +kernel
  go_enter Try.func3, Try.ntmps3
  go_upto_region 4 with (first | (go_at_call 4; refine (hm3 _).mono ?_; rintro e W ⟨rfl, g1⟩; have kW : Kp w W := Kp.trans (((Kp.refl w).alloc _).alloc _) g1; have sx := Fq.H2.keep (Fq.H2.new w (.int .u64 X1) (.int .u64 X2) 24) (Kp.trans ((Kp.refl _).alloc (.cells #[.bool s3, .slice p3 l3 c3, .slice q3 k3 d3] 27)) g1); have sv := H3c.keep (H3c.two w #[.int .u64 X1, .int .u64 X2] (.bool s3) (.slice p3 l3 c3) (.slice q3 k3 d3) 24 27) g1; have hz := hkr _ _ kW hz0; obtain ⟨x0, x1, x2, x3⟩ := id sx; obtain ⟨v0, v1, v2, v3, v4, v5⟩ := id sv) | (go_at_call 5; refine (hr _).mono ?_; rintro e wa ⟨rfl, ga⟩; have ga2 := Kp.trans ga ((Kp.refl _).alloc (.cells #[.int .u64 P1, .int .u64 P2] 24)); replace sx := Fq.H2.keep sx ga2; replace sv := H3c.keep sv ga2; replace hz := hkr _ _ ga2 hz; replace kW := Kp.trans kW ga2; have sy := Fq.H2.new wa (.int .u64 P1) (.int .u64 P2) 24; clear x0 x1 x2 x3 v0 v1 v2 v3 v4 v5; obtain ⟨x0, x1, x2, x3⟩ := id sx; obtain ⟨v0, v1, v2, v3, v4, v5⟩ := id sv))
  generalize wa.alloc (.cells #[.int .u64 P1, .int .u64 P2] 24) = W at sx sv sy hz kW x0 x1 x2 x3 v0 v1 v2 v3 v4 v5 ⊢
  generalize wa.heap.size = gy at sy ⊢
  generalize w.heap.size + 1 = bv at sv v0 v1 v2 v3 v4 v5 ⊢
  generalize w.heap.size = bx at sx x0 x1 x2 x3 ⊢
  clear t3
  refine Fq.wp_region_grow (by kernel_rfl) (by kernel_rfl) (fun ι _ G hG hall => ?_)
  have cc0 : ∀ n, (G n).cell? ⟨gy, 0, none⟩ = some (.int .u64 P1) := fun n => Fq.gkeep (hG n) sy.1
  have cc1 : ∀ n, (G n).cell? ⟨gy, 1, none⟩ = some (.int .u64 P2) := fun n => Fq.gkeep (hG n) sy.2.1
  repeat (go_big_quiet_step (first | (go_at_call 6; exact (rempty9_ _).mono (fun e w' h => ⟨h.1, hall _ (Fq.gtrans (hG _) h.2)⟩))))
  refine wpQuiet_nil ?_
  rintro _ ⟨nq, rfl⟩
  have gq : Kp W (G nq) := hG nq
  clear cc0 cc1 hall hG
  replace sx := Fq.H2.keep sx gq
  replace sv := H3c.keep sv gq
  replace sy := Fq.H2.keep sy gq
  replace hz := hkr _ _ gq hz
  replace kW := Kp.trans kW gq
  clear gq x0 x1 x2 x3 v0 v1 v2 v3 v4 v5
  generalize G nq = W at sx sv sy hz kW ⊢
  obtain ⟨x0, x1, x2, x3⟩ := id sx; obtain ⟨v0, v1, v2, v3, v4, v5⟩ := id sv
  go_wp2
  exact bodyPost_ret (v := .bool true) (by simp [results, Try.results3, go_sem]) rfl ⟨rfl, kW⟩
end Go.Proofs.Ytolghomhigemgaa
