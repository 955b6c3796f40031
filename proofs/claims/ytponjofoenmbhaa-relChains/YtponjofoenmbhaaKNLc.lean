import Derived.Test.YtponjofoenmbhaaProg
import Derived.Test.YtponjofoenmbhaaKXA0
import Derived.Test.YtponjofoenmbhaaKQM
import Derived.Test.YtponjofoenmbhaaKQA
import Derived.Test.YtponjofoenmbhaaKXQU
import Derived.Test.YtponjofoenmbhaaKEM
import Derived.Test.YtponjofoenmbhaaKEN
import Derived.Test.YtponjofoenmbhaaKEA
import Derived.Test.YtponjofoenmbhaaKEB
import Derived.Test.YtponjofoenmbhaaKEH
import Derived.Test.YtponjofoenmbhaaKEK
import Derived.Test.YtponjofoenmbhaaKEO
import Derived.Test.YtponjofoenmbhaaKER
import Derived.Test.YtponjofoenmbhaaKES
import Derived.Test.YtponjofoenmbhaaKNRv
import Derived.Test.YtponjofoenmbhaaKNRm
import Derived.Test.YtponjofoenmbhaaKNRa
import Derived.Test.YtponjofoenmbhaaKNRb
import Derived.Test.YtponjofoenmbhaaKNRc
import Derived.Test.YtponjofoenmbhaaKNRd
import Derived.Test.YtponjofoenmbhaaKNRe
import Derived.Test.YtponjofoenmbhaaKNRf
import Derived.Test.YtponjofoenmbhaaKNRg
import Derived.Test.YtponjofoenmbhaaKNRh
import Derived.Test.YtponjofoenmbhaaKNRi
import Derived.WalkKit
import Derived.ProofKit
import Derived.RowKit3
import Derived.WalkSpells
import Derived.StillTactics
import Derived.Deep.QuietTactic
import Derived.BigQuiet
import Derived.Below
import Derived.Deep.OwnRows
import Derived.OwnWalk
import Derived.Laws.BitsAllLaws
import Derived.Laws.Slices
import Derived.Laws.Bits64b
import Derived.Laws.FloatArith
import Derived.Deep.RegionHeld3
import Derived.Deep.CutRange
import Derived.Deep.DeepCutAuto
namespace Go.Proofs.Ytponjofoenmbhaa
open Go.RowKit
set_option maxRecDepth 20000 in
set_option maxHeartbeats 4000000 in
theorem chainsA_ (X1 X2 Y1 Y2 Z1 Z2 : Int) (A1 A2 B1 B2 C1 C2 : Nat) (PB : Nat → Nat → Nat → Nat → Nat → Bool → Prop) (PE : Nat → Nat → Bool → Prop) (hB : ∀ f x1 x2 y1 y2 V, PB f x1 x2 y1 y2 V → ∀ w : World, Calls Try.prog f #[.agg #[.float .f64 x1, .float .f64 x2], .agg #[.float .f64 y1, .float .f64 y2]] w fun e w' => e = .returned (.bool V) ∧ Kp w w') (hE : ∀ x1 x2 V, PE x1 x2 V → ∀ w : World, Calls Try.prog 16 #[.agg #[.float .f64 x1, .float .f64 x2]] w fun e w' => e = .returned (.bool V) ∧ Kp w w') (vLab vLbc vLac vLba vSab vSbc vSac vPab vPbc vPac vQab vDab vIab vUab vEab va vb : Bool) (fLab : PB 17 A1 A2 B1 B2 vLab) (fLbc : PB 17 B1 B2 C1 C2 vLbc) (fLac : PB 17 A1 A2 C1 C2 vLac) (fLba : PB 17 B1 B2 A1 A2 vLba) (fSab : PB 18 A1 A2 B1 B2 vSab) (fSbc : PB 18 B1 B2 C1 C2 vSbc) (fSac : PB 18 A1 A2 C1 C2 vSac) (fPab : PB 19 A1 A2 B1 B2 vPab) (fPbc : PB 19 B1 B2 C1 C2 vPbc) (fPac : PB 19 A1 A2 C1 C2 vPac) (fQab : PB 20 A1 A2 B1 B2 vQab) (fDab : PB 15 A1 A2 B1 B2 vDab) (fIab : PB 21 A1 A2 B1 B2 vIab) (fUab : PB 13 A1 A2 B1 B2 vUab) (fEab : PB 14 A1 A2 B1 B2 vEab) (fa : PE A1 A2 va) (fb : PE B1 B2 vb) (hL : vLab = false ∨ (vLab = true ∧ vLbc = false) ∨ (vLab = true ∧ vLbc = true ∧ vLac = true)) (hS : vSab = false ∨ (vSab = true ∧ vSbc = false) ∨ (vSab = true ∧ vSbc = true ∧ vSac = true)) (hP : vb = true ∨ (vPab = false ∨ (vPab = true ∧ vPbc = false) ∨ (vPab = true ∧ vPbc = true ∧ vPac = true))) (hQ : vQab = false ∨ (vQab = true ∧ vPab = true ∧ vDab = true)) (hSL : vSab = false ∨ (vSab = true ∧ vLab = true)) (hIU : vIab = false ∨ (vIab = true ∧ vUab = true)) (hPL : va = true ∨ (va = false ∧ vb = true) ∨ (va = false ∧ vb = false ∧ vPab = false) ∨ (va = false ∧ vb = false ∧ vPab = true ∧ vLab = true)) (hLL : (vLab && vLba) = vEab) (hin1 : ∀ w : World, Calls Try.prog 9 #[.agg #[.int .u64 X1, .int .u64 X2]] w fun e w' => e = .returned (.agg #[.float .f64 A1, .float .f64 A2]) ∧ Kp w w') (hin2 : ∀ w : World, Calls Try.prog 9 #[.agg #[.int .u64 Y1, .int .u64 Y2]] w fun e w' => e = .returned (.agg #[.float .f64 B1, .float .f64 B2]) ∧ Kp w w') (hin3 : ∀ w : World, Calls Try.prog 9 #[.agg #[.int .u64 Z1, .int .u64 Z2]] w fun e w' => e = .returned (.agg #[.float .f64 C1, .float .f64 C2]) ∧ Kp w w') (w : World) : Calls Try.prog 5 #[.agg #[.int .u64 X1, .int .u64 X2], .agg #[.int .u64 Y1, .int .u64 Y2], .agg #[.int .u64 Z1, .int .u64 Z2]] w fun e w' => e = .returned (.bool true) ∧ Kp w w' := by
  go_enter Try.func5, Try.ntmps5
  go_upto_region 6 with (first | (go_at_call 11; refine (awake9_ _).mono ?_; rintro e w1 ⟨rfl, g1⟩; have k1 : Kp w w1 := Kp.trans ((((Kp.refl w).alloc _).alloc _).alloc _) g1; have s1 := H6.keep (H6.new w (.int .u64 X1) (.int .u64 X2) (.int .u64 Y1) (.int .u64 Y2) (.int .u64 Z1) (.int .u64 Z2) 24 24 24) g1; have z0 := s1.1.1; have z1 := s1.1.2.1) | (go_at_call_of 9 (Value.agg #[.int .u64 X1, .int .u64 X2]); refine (hin1 _).mono ?_; rintro e w2 ⟨rfl, g2⟩; have k2 := Kp.trans k1 g2; have s2 := H6.keep s1 g2; have y00 := fun o => (H6.keep s2 ((Kp.refl w2).alloc o)).2.1.1; have y01 := fun o => (H6.keep s2 ((Kp.refl w2).alloc o)).2.1.2.1) | (go_at_call_of 9 (Value.agg #[.int .u64 Y1, .int .u64 Y2]); refine (hin2 _).mono ?_; rintro e w3 ⟨rfl, g3⟩; have k3 := Kp.trans (k2.alloc _) g3; have s3 := H6.keep (H6.keep s2 ((Kp.refl w2).alloc _)) g3; have q0_3 := Fq.H2.keep (Fq.H2.new w2 (.float .f64 A1) (.float .f64 A2) 28) g3; have y10 := fun o => (H6.keep s3 ((Kp.refl w3).alloc o)).2.2.1; have y11 := fun o => (H6.keep s3 ((Kp.refl w3).alloc o)).2.2.2.1) | (go_at_call_of 9 (Value.agg #[.int .u64 Z1, .int .u64 Z2]); refine (hin3 _).mono ?_; rintro e w4 ⟨rfl, g4⟩; have k4 := Kp.trans (k3.alloc _) g4; have s4 := H6.keep (H6.keep s3 ((Kp.refl w3).alloc _)) g4; have q1_4 := Fq.H2.keep (Fq.H2.new w3 (.float .f64 B1) (.float .f64 B2) 28) g4; have q0_4 := Fq.H2.keep (Fq.H2.past q0_3 #[.float .f64 B1, .float .f64 B2] 28) g4))
  have qa := Fq.H2.past q0_4 #[.float .f64 C1, .float .f64 C2] 28
  have qb := Fq.H2.past q1_4 #[.float .f64 C1, .float .f64 C2] 28
  have qc := Fq.H2.new w4 (.float .f64 C1) (.float .f64 C2) 28
  have kW := k4.alloc (.cells #[.float .f64 C1, .float .f64 C2] 28)
  generalize hW : w4.alloc (.cells #[.float .f64 C1, .float .f64 C2] 28) = W at qa qb qc kW ⊢
  generalize w2.heap.size = ba at qa ⊢
  generalize w3.heap.size = bb at qb ⊢
  generalize w4.heap.size = bc at qc ⊢
  clear hW k1 s1 g1 k2 s2 g2 k3 s3 g3 k4 s4 g4 z0 z1 y00 y01 y10 y11 q0_3 q0_4 q1_4 hin1 hin2 hin3
  go_upto_region 6 with fail
  go_cut [47] (fun s47 wx => s47 = .bool false ∧ Kp W wx)
  case first =>
    rcases hL with rfl | ⟨rfl, rfl⟩ | ⟨rfl, rfl, rfl⟩ <;> rcases hS with rfl | ⟨rfl, rfl⟩ | ⟨rfl, rfl, rfl⟩
    all_goals (
      have gq : Kp W W := Kp.refl W
      obtain ⟨a0, a1, a2, a3⟩ := id qa
      obtain ⟨b0, b1, b2, b3⟩ := id qb
      obtain ⟨c0, c1, c2, c3⟩ := id qc
      go_wp2_with (first | (go_at_call 13; refine (hB 13 _ _ _ _ _ (by with_reducible first | exact fLab | exact fLbc | exact fLac | exact fLba | exact fSab | exact fSbc | exact fSac | exact fPab | exact fPbc | exact fPac | exact fQab | exact fDab | exact fIab | exact fUab | exact fEab) _).mono ?_; rintro e wx ⟨rfl, gx⟩; replace gq := Kp.trans gq gx; replace qa := Fq.H2.keep qa gx; replace qb := Fq.H2.keep qb gx; replace qc := Fq.H2.keep qc gx; clear gx; obtain ⟨a0, a1, a2, a3⟩ := id qa; obtain ⟨b0, b1, b2, b3⟩ := id qb; obtain ⟨c0, c1, c2, c3⟩ := id qc) | (go_at_call 14; refine (hB 14 _ _ _ _ _ (by with_reducible first | exact fLab | exact fLbc | exact fLac | exact fLba | exact fSab | exact fSbc | exact fSac | exact fPab | exact fPbc | exact fPac | exact fQab | exact fDab | exact fIab | exact fUab | exact fEab) _).mono ?_; rintro e wx ⟨rfl, gx⟩; replace gq := Kp.trans gq gx; replace qa := Fq.H2.keep qa gx; replace qb := Fq.H2.keep qb gx; replace qc := Fq.H2.keep qc gx; clear gx; obtain ⟨a0, a1, a2, a3⟩ := id qa; obtain ⟨b0, b1, b2, b3⟩ := id qb; obtain ⟨c0, c1, c2, c3⟩ := id qc) | (go_at_call 15; refine (hB 15 _ _ _ _ _ (by with_reducible first | exact fLab | exact fLbc | exact fLac | exact fLba | exact fSab | exact fSbc | exact fSac | exact fPab | exact fPbc | exact fPac | exact fQab | exact fDab | exact fIab | exact fUab | exact fEab) _).mono ?_; rintro e wx ⟨rfl, gx⟩; replace gq := Kp.trans gq gx; replace qa := Fq.H2.keep qa gx; replace qb := Fq.H2.keep qb gx; replace qc := Fq.H2.keep qc gx; clear gx; obtain ⟨a0, a1, a2, a3⟩ := id qa; obtain ⟨b0, b1, b2, b3⟩ := id qb; obtain ⟨c0, c1, c2, c3⟩ := id qc) | (go_at_call 17; refine (hB 17 _ _ _ _ _ (by with_reducible first | exact fLab | exact fLbc | exact fLac | exact fLba | exact fSab | exact fSbc | exact fSac | exact fPab | exact fPbc | exact fPac | exact fQab | exact fDab | exact fIab | exact fUab | exact fEab) _).mono ?_; rintro e wx ⟨rfl, gx⟩; replace gq := Kp.trans gq gx; replace qa := Fq.H2.keep qa gx; replace qb := Fq.H2.keep qb gx; replace qc := Fq.H2.keep qc gx; clear gx; obtain ⟨a0, a1, a2, a3⟩ := id qa; obtain ⟨b0, b1, b2, b3⟩ := id qb; obtain ⟨c0, c1, c2, c3⟩ := id qc) | (go_at_call 18; refine (hB 18 _ _ _ _ _ (by with_reducible first | exact fLab | exact fLbc | exact fLac | exact fLba | exact fSab | exact fSbc | exact fSac | exact fPab | exact fPbc | exact fPac | exact fQab | exact fDab | exact fIab | exact fUab | exact fEab) _).mono ?_; rintro e wx ⟨rfl, gx⟩; replace gq := Kp.trans gq gx; replace qa := Fq.H2.keep qa gx; replace qb := Fq.H2.keep qb gx; replace qc := Fq.H2.keep qc gx; clear gx; obtain ⟨a0, a1, a2, a3⟩ := id qa; obtain ⟨b0, b1, b2, b3⟩ := id qb; obtain ⟨c0, c1, c2, c3⟩ := id qc) | (go_at_call 19; refine (hB 19 _ _ _ _ _ (by with_reducible first | exact fLab | exact fLbc | exact fLac | exact fLba | exact fSab | exact fSbc | exact fSac | exact fPab | exact fPbc | exact fPac | exact fQab | exact fDab | exact fIab | exact fUab | exact fEab) _).mono ?_; rintro e wx ⟨rfl, gx⟩; replace gq := Kp.trans gq gx; replace qa := Fq.H2.keep qa gx; replace qb := Fq.H2.keep qb gx; replace qc := Fq.H2.keep qc gx; clear gx; obtain ⟨a0, a1, a2, a3⟩ := id qa; obtain ⟨b0, b1, b2, b3⟩ := id qb; obtain ⟨c0, c1, c2, c3⟩ := id qc) | (go_at_call 20; refine (hB 20 _ _ _ _ _ (by with_reducible first | exact fLab | exact fLbc | exact fLac | exact fLba | exact fSab | exact fSbc | exact fSac | exact fPab | exact fPbc | exact fPac | exact fQab | exact fDab | exact fIab | exact fUab | exact fEab) _).mono ?_; rintro e wx ⟨rfl, gx⟩; replace gq := Kp.trans gq gx; replace qa := Fq.H2.keep qa gx; replace qb := Fq.H2.keep qb gx; replace qc := Fq.H2.keep qc gx; clear gx; obtain ⟨a0, a1, a2, a3⟩ := id qa; obtain ⟨b0, b1, b2, b3⟩ := id qb; obtain ⟨c0, c1, c2, c3⟩ := id qc) | (go_at_call 21; refine (hB 21 _ _ _ _ _ (by with_reducible first | exact fLab | exact fLbc | exact fLac | exact fLba | exact fSab | exact fSbc | exact fSac | exact fPab | exact fPbc | exact fPac | exact fQab | exact fDab | exact fIab | exact fUab | exact fEab) _).mono ?_; rintro e wx ⟨rfl, gx⟩; replace gq := Kp.trans gq gx; replace qa := Fq.H2.keep qa gx; replace qb := Fq.H2.keep qb gx; replace qc := Fq.H2.keep qc gx; clear gx; obtain ⟨a0, a1, a2, a3⟩ := id qa; obtain ⟨b0, b1, b2, b3⟩ := id qb; obtain ⟨c0, c1, c2, c3⟩ := id qc) | (go_at_call 16; refine (hE _ _ _ (by with_reducible first | exact fa | exact fb) _).mono ?_; rintro e wx ⟨rfl, gx⟩; replace gq := Kp.trans gq gx; replace qa := Fq.H2.keep qa gx; replace qb := Fq.H2.keep qb gx; replace qc := Fq.H2.keep qc gx; clear gx; obtain ⟨a0, a1, a2, a3⟩ := id qa; obtain ⟨b0, b1, b2, b3⟩ := id qb; obtain ⟨c0, c1, c2, c3⟩ := id qc))
      go_meet
      exact ⟨rfl, gq⟩)
  case rest =>
  obtain ⟨rfl, gw⟩ := hcut
  replace qa := Fq.H2.keep qa gw
  replace qb := Fq.H2.keep qb gw
  replace qc := Fq.H2.keep qc gw
  replace kW := Kp.trans kW gw
  clear gw
  generalize wc = W at qa qb qc kW ⊢
  go_upto_region 8 with fail
  go_cut [66] (fun s66 wx => s66 = .bool false ∧ Kp W wx)
  case first =>
    cases vb <;> rcases hP with h0 | rfl | ⟨rfl, rfl⟩ | ⟨rfl, rfl, rfl⟩ <;> first | (cases h0; done) | skip
    all_goals (
      have gq : Kp W W := Kp.refl W
      obtain ⟨a0, a1, a2, a3⟩ := id qa
      obtain ⟨b0, b1, b2, b3⟩ := id qb
      obtain ⟨c0, c1, c2, c3⟩ := id qc
      go_wp2_with (first | (go_at_call 13; refine (hB 13 _ _ _ _ _ (by with_reducible first | exact fLab | exact fLbc | exact fLac | exact fLba | exact fSab | exact fSbc | exact fSac | exact fPab | exact fPbc | exact fPac | exact fQab | exact fDab | exact fIab | exact fUab | exact fEab) _).mono ?_; rintro e wx ⟨rfl, gx⟩; replace gq := Kp.trans gq gx; replace qa := Fq.H2.keep qa gx; replace qb := Fq.H2.keep qb gx; replace qc := Fq.H2.keep qc gx; clear gx; obtain ⟨a0, a1, a2, a3⟩ := id qa; obtain ⟨b0, b1, b2, b3⟩ := id qb; obtain ⟨c0, c1, c2, c3⟩ := id qc) | (go_at_call 14; refine (hB 14 _ _ _ _ _ (by with_reducible first | exact fLab | exact fLbc | exact fLac | exact fLba | exact fSab | exact fSbc | exact fSac | exact fPab | exact fPbc | exact fPac | exact fQab | exact fDab | exact fIab | exact fUab | exact fEab) _).mono ?_; rintro e wx ⟨rfl, gx⟩; replace gq := Kp.trans gq gx; replace qa := Fq.H2.keep qa gx; replace qb := Fq.H2.keep qb gx; replace qc := Fq.H2.keep qc gx; clear gx; obtain ⟨a0, a1, a2, a3⟩ := id qa; obtain ⟨b0, b1, b2, b3⟩ := id qb; obtain ⟨c0, c1, c2, c3⟩ := id qc) | (go_at_call 15; refine (hB 15 _ _ _ _ _ (by with_reducible first | exact fLab | exact fLbc | exact fLac | exact fLba | exact fSab | exact fSbc | exact fSac | exact fPab | exact fPbc | exact fPac | exact fQab | exact fDab | exact fIab | exact fUab | exact fEab) _).mono ?_; rintro e wx ⟨rfl, gx⟩; replace gq := Kp.trans gq gx; replace qa := Fq.H2.keep qa gx; replace qb := Fq.H2.keep qb gx; replace qc := Fq.H2.keep qc gx; clear gx; obtain ⟨a0, a1, a2, a3⟩ := id qa; obtain ⟨b0, b1, b2, b3⟩ := id qb; obtain ⟨c0, c1, c2, c3⟩ := id qc) | (go_at_call 17; refine (hB 17 _ _ _ _ _ (by with_reducible first | exact fLab | exact fLbc | exact fLac | exact fLba | exact fSab | exact fSbc | exact fSac | exact fPab | exact fPbc | exact fPac | exact fQab | exact fDab | exact fIab | exact fUab | exact fEab) _).mono ?_; rintro e wx ⟨rfl, gx⟩; replace gq := Kp.trans gq gx; replace qa := Fq.H2.keep qa gx; replace qb := Fq.H2.keep qb gx; replace qc := Fq.H2.keep qc gx; clear gx; obtain ⟨a0, a1, a2, a3⟩ := id qa; obtain ⟨b0, b1, b2, b3⟩ := id qb; obtain ⟨c0, c1, c2, c3⟩ := id qc) | (go_at_call 18; refine (hB 18 _ _ _ _ _ (by with_reducible first | exact fLab | exact fLbc | exact fLac | exact fLba | exact fSab | exact fSbc | exact fSac | exact fPab | exact fPbc | exact fPac | exact fQab | exact fDab | exact fIab | exact fUab | exact fEab) _).mono ?_; rintro e wx ⟨rfl, gx⟩; replace gq := Kp.trans gq gx; replace qa := Fq.H2.keep qa gx; replace qb := Fq.H2.keep qb gx; replace qc := Fq.H2.keep qc gx; clear gx; obtain ⟨a0, a1, a2, a3⟩ := id qa; obtain ⟨b0, b1, b2, b3⟩ := id qb; obtain ⟨c0, c1, c2, c3⟩ := id qc) | (go_at_call 19; refine (hB 19 _ _ _ _ _ (by with_reducible first | exact fLab | exact fLbc | exact fLac | exact fLba | exact fSab | exact fSbc | exact fSac | exact fPab | exact fPbc | exact fPac | exact fQab | exact fDab | exact fIab | exact fUab | exact fEab) _).mono ?_; rintro e wx ⟨rfl, gx⟩; replace gq := Kp.trans gq gx; replace qa := Fq.H2.keep qa gx; replace qb := Fq.H2.keep qb gx; replace qc := Fq.H2.keep qc gx; clear gx; obtain ⟨a0, a1, a2, a3⟩ := id qa; obtain ⟨b0, b1, b2, b3⟩ := id qb; obtain ⟨c0, c1, c2, c3⟩ := id qc) | (go_at_call 20; refine (hB 20 _ _ _ _ _ (by with_reducible first | exact fLab | exact fLbc | exact fLac | exact fLba | exact fSab | exact fSbc | exact fSac | exact fPab | exact fPbc | exact fPac | exact fQab | exact fDab | exact fIab | exact fUab | exact fEab) _).mono ?_; rintro e wx ⟨rfl, gx⟩; replace gq := Kp.trans gq gx; replace qa := Fq.H2.keep qa gx; replace qb := Fq.H2.keep qb gx; replace qc := Fq.H2.keep qc gx; clear gx; obtain ⟨a0, a1, a2, a3⟩ := id qa; obtain ⟨b0, b1, b2, b3⟩ := id qb; obtain ⟨c0, c1, c2, c3⟩ := id qc) | (go_at_call 21; refine (hB 21 _ _ _ _ _ (by with_reducible first | exact fLab | exact fLbc | exact fLac | exact fLba | exact fSab | exact fSbc | exact fSac | exact fPab | exact fPbc | exact fPac | exact fQab | exact fDab | exact fIab | exact fUab | exact fEab) _).mono ?_; rintro e wx ⟨rfl, gx⟩; replace gq := Kp.trans gq gx; replace qa := Fq.H2.keep qa gx; replace qb := Fq.H2.keep qb gx; replace qc := Fq.H2.keep qc gx; clear gx; obtain ⟨a0, a1, a2, a3⟩ := id qa; obtain ⟨b0, b1, b2, b3⟩ := id qb; obtain ⟨c0, c1, c2, c3⟩ := id qc) | (go_at_call 16; refine (hE _ _ _ (by with_reducible first | exact fa | exact fb) _).mono ?_; rintro e wx ⟨rfl, gx⟩; replace gq := Kp.trans gq gx; replace qa := Fq.H2.keep qa gx; replace qb := Fq.H2.keep qb gx; replace qc := Fq.H2.keep qc gx; clear gx; obtain ⟨a0, a1, a2, a3⟩ := id qa; obtain ⟨b0, b1, b2, b3⟩ := id qb; obtain ⟨c0, c1, c2, c3⟩ := id qc))
      go_meet
      exact ⟨rfl, gq⟩)
  case rest =>
  obtain ⟨rfl, gw⟩ := hcut
  replace qa := Fq.H2.keep qa gw
  replace qb := Fq.H2.keep qb gw
  replace qc := Fq.H2.keep qc gw
  replace kW := Kp.trans kW gw
  clear gw
  generalize wc = W at qa qb qc kW ⊢
  go_upto_region 10 with fail
  go_cut [102] (fun s102 wx => s102 = .bool false ∧ Kp W wx)
  case first =>
    rcases hQ with rfl | ⟨rfl, rfl, rfl⟩ <;> rcases hSL with rfl | ⟨rfl, rfl⟩ <;> rcases hIU with rfl | ⟨rfl, rfl⟩
    all_goals (
      have gq : Kp W W := Kp.refl W
      obtain ⟨a0, a1, a2, a3⟩ := id qa
      obtain ⟨b0, b1, b2, b3⟩ := id qb
      obtain ⟨c0, c1, c2, c3⟩ := id qc
      go_wp2_with (first | (go_at_call 13; refine (hB 13 _ _ _ _ _ (by with_reducible first | exact fLab | exact fLbc | exact fLac | exact fLba | exact fSab | exact fSbc | exact fSac | exact fPab | exact fPbc | exact fPac | exact fQab | exact fDab | exact fIab | exact fUab | exact fEab) _).mono ?_; rintro e wx ⟨rfl, gx⟩; replace gq := Kp.trans gq gx; replace qa := Fq.H2.keep qa gx; replace qb := Fq.H2.keep qb gx; replace qc := Fq.H2.keep qc gx; clear gx; obtain ⟨a0, a1, a2, a3⟩ := id qa; obtain ⟨b0, b1, b2, b3⟩ := id qb; obtain ⟨c0, c1, c2, c3⟩ := id qc) | (go_at_call 14; refine (hB 14 _ _ _ _ _ (by with_reducible first | exact fLab | exact fLbc | exact fLac | exact fLba | exact fSab | exact fSbc | exact fSac | exact fPab | exact fPbc | exact fPac | exact fQab | exact fDab | exact fIab | exact fUab | exact fEab) _).mono ?_; rintro e wx ⟨rfl, gx⟩; replace gq := Kp.trans gq gx; replace qa := Fq.H2.keep qa gx; replace qb := Fq.H2.keep qb gx; replace qc := Fq.H2.keep qc gx; clear gx; obtain ⟨a0, a1, a2, a3⟩ := id qa; obtain ⟨b0, b1, b2, b3⟩ := id qb; obtain ⟨c0, c1, c2, c3⟩ := id qc) | (go_at_call 15; refine (hB 15 _ _ _ _ _ (by with_reducible first | exact fLab | exact fLbc | exact fLac | exact fLba | exact fSab | exact fSbc | exact fSac | exact fPab | exact fPbc | exact fPac | exact fQab | exact fDab | exact fIab | exact fUab | exact fEab) _).mono ?_; rintro e wx ⟨rfl, gx⟩; replace gq := Kp.trans gq gx; replace qa := Fq.H2.keep qa gx; replace qb := Fq.H2.keep qb gx; replace qc := Fq.H2.keep qc gx; clear gx; obtain ⟨a0, a1, a2, a3⟩ := id qa; obtain ⟨b0, b1, b2, b3⟩ := id qb; obtain ⟨c0, c1, c2, c3⟩ := id qc) | (go_at_call 17; refine (hB 17 _ _ _ _ _ (by with_reducible first | exact fLab | exact fLbc | exact fLac | exact fLba | exact fSab | exact fSbc | exact fSac | exact fPab | exact fPbc | exact fPac | exact fQab | exact fDab | exact fIab | exact fUab | exact fEab) _).mono ?_; rintro e wx ⟨rfl, gx⟩; replace gq := Kp.trans gq gx; replace qa := Fq.H2.keep qa gx; replace qb := Fq.H2.keep qb gx; replace qc := Fq.H2.keep qc gx; clear gx; obtain ⟨a0, a1, a2, a3⟩ := id qa; obtain ⟨b0, b1, b2, b3⟩ := id qb; obtain ⟨c0, c1, c2, c3⟩ := id qc) | (go_at_call 18; refine (hB 18 _ _ _ _ _ (by with_reducible first | exact fLab | exact fLbc | exact fLac | exact fLba | exact fSab | exact fSbc | exact fSac | exact fPab | exact fPbc | exact fPac | exact fQab | exact fDab | exact fIab | exact fUab | exact fEab) _).mono ?_; rintro e wx ⟨rfl, gx⟩; replace gq := Kp.trans gq gx; replace qa := Fq.H2.keep qa gx; replace qb := Fq.H2.keep qb gx; replace qc := Fq.H2.keep qc gx; clear gx; obtain ⟨a0, a1, a2, a3⟩ := id qa; obtain ⟨b0, b1, b2, b3⟩ := id qb; obtain ⟨c0, c1, c2, c3⟩ := id qc) | (go_at_call 19; refine (hB 19 _ _ _ _ _ (by with_reducible first | exact fLab | exact fLbc | exact fLac | exact fLba | exact fSab | exact fSbc | exact fSac | exact fPab | exact fPbc | exact fPac | exact fQab | exact fDab | exact fIab | exact fUab | exact fEab) _).mono ?_; rintro e wx ⟨rfl, gx⟩; replace gq := Kp.trans gq gx; replace qa := Fq.H2.keep qa gx; replace qb := Fq.H2.keep qb gx; replace qc := Fq.H2.keep qc gx; clear gx; obtain ⟨a0, a1, a2, a3⟩ := id qa; obtain ⟨b0, b1, b2, b3⟩ := id qb; obtain ⟨c0, c1, c2, c3⟩ := id qc) | (go_at_call 20; refine (hB 20 _ _ _ _ _ (by with_reducible first | exact fLab | exact fLbc | exact fLac | exact fLba | exact fSab | exact fSbc | exact fSac | exact fPab | exact fPbc | exact fPac | exact fQab | exact fDab | exact fIab | exact fUab | exact fEab) _).mono ?_; rintro e wx ⟨rfl, gx⟩; replace gq := Kp.trans gq gx; replace qa := Fq.H2.keep qa gx; replace qb := Fq.H2.keep qb gx; replace qc := Fq.H2.keep qc gx; clear gx; obtain ⟨a0, a1, a2, a3⟩ := id qa; obtain ⟨b0, b1, b2, b3⟩ := id qb; obtain ⟨c0, c1, c2, c3⟩ := id qc) | (go_at_call 21; refine (hB 21 _ _ _ _ _ (by with_reducible first | exact fLab | exact fLbc | exact fLac | exact fLba | exact fSab | exact fSbc | exact fSac | exact fPab | exact fPbc | exact fPac | exact fQab | exact fDab | exact fIab | exact fUab | exact fEab) _).mono ?_; rintro e wx ⟨rfl, gx⟩; replace gq := Kp.trans gq gx; replace qa := Fq.H2.keep qa gx; replace qb := Fq.H2.keep qb gx; replace qc := Fq.H2.keep qc gx; clear gx; obtain ⟨a0, a1, a2, a3⟩ := id qa; obtain ⟨b0, b1, b2, b3⟩ := id qb; obtain ⟨c0, c1, c2, c3⟩ := id qc) | (go_at_call 16; refine (hE _ _ _ (by with_reducible first | exact fa | exact fb) _).mono ?_; rintro e wx ⟨rfl, gx⟩; replace gq := Kp.trans gq gx; replace qa := Fq.H2.keep qa gx; replace qb := Fq.H2.keep qb gx; replace qc := Fq.H2.keep qc gx; clear gx; obtain ⟨a0, a1, a2, a3⟩ := id qa; obtain ⟨b0, b1, b2, b3⟩ := id qb; obtain ⟨c0, c1, c2, c3⟩ := id qc))
      go_meet
      exact ⟨rfl, gq⟩)
  case rest =>
  obtain ⟨rfl, gw⟩ := hcut
  replace qa := Fq.H2.keep qa gw
  replace qb := Fq.H2.keep qb gw
  replace qc := Fq.H2.keep qc gw
  replace kW := Kp.trans kW gw
  clear gw
  generalize wc = W at qa qb qc kW ⊢
  go_upto_region 12 with fail
  go_cut [121] (fun s121 wx => s121 = .bool false ∧ Kp W wx)
  case first =>
    rcases hPL with rfl | ⟨rfl, rfl⟩ | ⟨rfl, rfl, rfl⟩ | ⟨rfl, rfl, rfl, rfl⟩
    all_goals (
      have gq : Kp W W := Kp.refl W
      obtain ⟨a0, a1, a2, a3⟩ := id qa
      obtain ⟨b0, b1, b2, b3⟩ := id qb
      obtain ⟨c0, c1, c2, c3⟩ := id qc
      go_wp2_with (first | (go_at_call 13; refine (hB 13 _ _ _ _ _ (by with_reducible first | exact fLab | exact fLbc | exact fLac | exact fLba | exact fSab | exact fSbc | exact fSac | exact fPab | exact fPbc | exact fPac | exact fQab | exact fDab | exact fIab | exact fUab | exact fEab) _).mono ?_; rintro e wx ⟨rfl, gx⟩; replace gq := Kp.trans gq gx; replace qa := Fq.H2.keep qa gx; replace qb := Fq.H2.keep qb gx; replace qc := Fq.H2.keep qc gx; clear gx; obtain ⟨a0, a1, a2, a3⟩ := id qa; obtain ⟨b0, b1, b2, b3⟩ := id qb; obtain ⟨c0, c1, c2, c3⟩ := id qc) | (go_at_call 14; refine (hB 14 _ _ _ _ _ (by with_reducible first | exact fLab | exact fLbc | exact fLac | exact fLba | exact fSab | exact fSbc | exact fSac | exact fPab | exact fPbc | exact fPac | exact fQab | exact fDab | exact fIab | exact fUab | exact fEab) _).mono ?_; rintro e wx ⟨rfl, gx⟩; replace gq := Kp.trans gq gx; replace qa := Fq.H2.keep qa gx; replace qb := Fq.H2.keep qb gx; replace qc := Fq.H2.keep qc gx; clear gx; obtain ⟨a0, a1, a2, a3⟩ := id qa; obtain ⟨b0, b1, b2, b3⟩ := id qb; obtain ⟨c0, c1, c2, c3⟩ := id qc) | (go_at_call 15; refine (hB 15 _ _ _ _ _ (by with_reducible first | exact fLab | exact fLbc | exact fLac | exact fLba | exact fSab | exact fSbc | exact fSac | exact fPab | exact fPbc | exact fPac | exact fQab | exact fDab | exact fIab | exact fUab | exact fEab) _).mono ?_; rintro e wx ⟨rfl, gx⟩; replace gq := Kp.trans gq gx; replace qa := Fq.H2.keep qa gx; replace qb := Fq.H2.keep qb gx; replace qc := Fq.H2.keep qc gx; clear gx; obtain ⟨a0, a1, a2, a3⟩ := id qa; obtain ⟨b0, b1, b2, b3⟩ := id qb; obtain ⟨c0, c1, c2, c3⟩ := id qc) | (go_at_call 17; refine (hB 17 _ _ _ _ _ (by with_reducible first | exact fLab | exact fLbc | exact fLac | exact fLba | exact fSab | exact fSbc | exact fSac | exact fPab | exact fPbc | exact fPac | exact fQab | exact fDab | exact fIab | exact fUab | exact fEab) _).mono ?_; rintro e wx ⟨rfl, gx⟩; replace gq := Kp.trans gq gx; replace qa := Fq.H2.keep qa gx; replace qb := Fq.H2.keep qb gx; replace qc := Fq.H2.keep qc gx; clear gx; obtain ⟨a0, a1, a2, a3⟩ := id qa; obtain ⟨b0, b1, b2, b3⟩ := id qb; obtain ⟨c0, c1, c2, c3⟩ := id qc) | (go_at_call 18; refine (hB 18 _ _ _ _ _ (by with_reducible first | exact fLab | exact fLbc | exact fLac | exact fLba | exact fSab | exact fSbc | exact fSac | exact fPab | exact fPbc | exact fPac | exact fQab | exact fDab | exact fIab | exact fUab | exact fEab) _).mono ?_; rintro e wx ⟨rfl, gx⟩; replace gq := Kp.trans gq gx; replace qa := Fq.H2.keep qa gx; replace qb := Fq.H2.keep qb gx; replace qc := Fq.H2.keep qc gx; clear gx; obtain ⟨a0, a1, a2, a3⟩ := id qa; obtain ⟨b0, b1, b2, b3⟩ := id qb; obtain ⟨c0, c1, c2, c3⟩ := id qc) | (go_at_call 19; refine (hB 19 _ _ _ _ _ (by with_reducible first | exact fLab | exact fLbc | exact fLac | exact fLba | exact fSab | exact fSbc | exact fSac | exact fPab | exact fPbc | exact fPac | exact fQab | exact fDab | exact fIab | exact fUab | exact fEab) _).mono ?_; rintro e wx ⟨rfl, gx⟩; replace gq := Kp.trans gq gx; replace qa := Fq.H2.keep qa gx; replace qb := Fq.H2.keep qb gx; replace qc := Fq.H2.keep qc gx; clear gx; obtain ⟨a0, a1, a2, a3⟩ := id qa; obtain ⟨b0, b1, b2, b3⟩ := id qb; obtain ⟨c0, c1, c2, c3⟩ := id qc) | (go_at_call 20; refine (hB 20 _ _ _ _ _ (by with_reducible first | exact fLab | exact fLbc | exact fLac | exact fLba | exact fSab | exact fSbc | exact fSac | exact fPab | exact fPbc | exact fPac | exact fQab | exact fDab | exact fIab | exact fUab | exact fEab) _).mono ?_; rintro e wx ⟨rfl, gx⟩; replace gq := Kp.trans gq gx; replace qa := Fq.H2.keep qa gx; replace qb := Fq.H2.keep qb gx; replace qc := Fq.H2.keep qc gx; clear gx; obtain ⟨a0, a1, a2, a3⟩ := id qa; obtain ⟨b0, b1, b2, b3⟩ := id qb; obtain ⟨c0, c1, c2, c3⟩ := id qc) | (go_at_call 21; refine (hB 21 _ _ _ _ _ (by with_reducible first | exact fLab | exact fLbc | exact fLac | exact fLba | exact fSab | exact fSbc | exact fSac | exact fPab | exact fPbc | exact fPac | exact fQab | exact fDab | exact fIab | exact fUab | exact fEab) _).mono ?_; rintro e wx ⟨rfl, gx⟩; replace gq := Kp.trans gq gx; replace qa := Fq.H2.keep qa gx; replace qb := Fq.H2.keep qb gx; replace qc := Fq.H2.keep qc gx; clear gx; obtain ⟨a0, a1, a2, a3⟩ := id qa; obtain ⟨b0, b1, b2, b3⟩ := id qb; obtain ⟨c0, c1, c2, c3⟩ := id qc) | (go_at_call 16; refine (hE _ _ _ (by with_reducible first | exact fa | exact fb) _).mono ?_; rintro e wx ⟨rfl, gx⟩; replace gq := Kp.trans gq gx; replace qa := Fq.H2.keep qa gx; replace qb := Fq.H2.keep qb gx; replace qc := Fq.H2.keep qc gx; clear gx; obtain ⟨a0, a1, a2, a3⟩ := id qa; obtain ⟨b0, b1, b2, b3⟩ := id qb; obtain ⟨c0, c1, c2, c3⟩ := id qc))
      go_meet
      exact ⟨rfl, gq⟩)
  case rest =>
  obtain ⟨rfl, gw⟩ := hcut
  replace qa := Fq.H2.keep qa gw
  replace qb := Fq.H2.keep qb gw
  replace qc := Fq.H2.keep qc gw
  replace kW := Kp.trans kW gw
  clear gw
  generalize wc = W at qa qb qc kW ⊢
  subst hLL
  go_upto_region 14 with fail
  cases vLab <;> cases vLba
  all_goals (
    refine Fq.wp_region_grow (by kernel_rfl) (by kernel_rfl) (fun ι _ G hG hall => ?_)
    have cc0 : ∀ n, (G n).cell? ⟨ba, 0, none⟩ = some (.float .f64 A1) := fun n => Fq.gkeep (hG n) qa.1
    have cc1 : ∀ n, (G n).cell? ⟨ba, 1, none⟩ = some (.float .f64 A2) := fun n => Fq.gkeep (hG n) qa.2.1
    have cc2 : ∀ n, (G n).cell? ⟨bb, 0, none⟩ = some (.float .f64 B1) := fun n => Fq.gkeep (hG n) qb.1
    have cc3 : ∀ n, (G n).cell? ⟨bb, 1, none⟩ = some (.float .f64 B2) := fun n => Fq.gkeep (hG n) qb.2.1
    have cc4 : ∀ n, (G n).cell? ⟨bc, 0, none⟩ = some (.float .f64 C1) := fun n => Fq.gkeep (hG n) qc.1
    have cc5 : ∀ n, (G n).cell? ⟨bc, 1, none⟩ = some (.float .f64 C2) := fun n => Fq.gkeep (hG n) qc.2.1
    repeat (go_big_quiet_step (first | (go_at_call 13; exact (hB 13 _ _ _ _ _ (by with_reducible first | exact fLab | exact fLbc | exact fLac | exact fLba | exact fSab | exact fSbc | exact fSac | exact fPab | exact fPbc | exact fPac | exact fQab | exact fDab | exact fIab | exact fUab | exact fEab) _).mono (fun e w' h => ⟨h.1, hall _ (Fq.gtrans (hG _) h.2)⟩)) | (go_at_call 14; exact (hB 14 _ _ _ _ _ (by with_reducible first | exact fLab | exact fLbc | exact fLac | exact fLba | exact fSab | exact fSbc | exact fSac | exact fPab | exact fPbc | exact fPac | exact fQab | exact fDab | exact fIab | exact fUab | exact fEab) _).mono (fun e w' h => ⟨h.1, hall _ (Fq.gtrans (hG _) h.2)⟩)) | (go_at_call 15; exact (hB 15 _ _ _ _ _ (by with_reducible first | exact fLab | exact fLbc | exact fLac | exact fLba | exact fSab | exact fSbc | exact fSac | exact fPab | exact fPbc | exact fPac | exact fQab | exact fDab | exact fIab | exact fUab | exact fEab) _).mono (fun e w' h => ⟨h.1, hall _ (Fq.gtrans (hG _) h.2)⟩)) | (go_at_call 17; exact (hB 17 _ _ _ _ _ (by with_reducible first | exact fLab | exact fLbc | exact fLac | exact fLba | exact fSab | exact fSbc | exact fSac | exact fPab | exact fPbc | exact fPac | exact fQab | exact fDab | exact fIab | exact fUab | exact fEab) _).mono (fun e w' h => ⟨h.1, hall _ (Fq.gtrans (hG _) h.2)⟩)) | (go_at_call 18; exact (hB 18 _ _ _ _ _ (by with_reducible first | exact fLab | exact fLbc | exact fLac | exact fLba | exact fSab | exact fSbc | exact fSac | exact fPab | exact fPbc | exact fPac | exact fQab | exact fDab | exact fIab | exact fUab | exact fEab) _).mono (fun e w' h => ⟨h.1, hall _ (Fq.gtrans (hG _) h.2)⟩)) | (go_at_call 19; exact (hB 19 _ _ _ _ _ (by with_reducible first | exact fLab | exact fLbc | exact fLac | exact fLba | exact fSab | exact fSbc | exact fSac | exact fPab | exact fPbc | exact fPac | exact fQab | exact fDab | exact fIab | exact fUab | exact fEab) _).mono (fun e w' h => ⟨h.1, hall _ (Fq.gtrans (hG _) h.2)⟩)) | (go_at_call 20; exact (hB 20 _ _ _ _ _ (by with_reducible first | exact fLab | exact fLbc | exact fLac | exact fLba | exact fSab | exact fSbc | exact fSac | exact fPab | exact fPbc | exact fPac | exact fQab | exact fDab | exact fIab | exact fUab | exact fEab) _).mono (fun e w' h => ⟨h.1, hall _ (Fq.gtrans (hG _) h.2)⟩)) | (go_at_call 21; exact (hB 21 _ _ _ _ _ (by with_reducible first | exact fLab | exact fLbc | exact fLac | exact fLba | exact fSab | exact fSbc | exact fSac | exact fPab | exact fPbc | exact fPac | exact fQab | exact fDab | exact fIab | exact fUab | exact fEab) _).mono (fun e w' h => ⟨h.1, hall _ (Fq.gtrans (hG _) h.2)⟩)) | (go_at_call 16; exact (hE _ _ _ (by with_reducible first | exact fa | exact fb) _).mono (fun e w' h => ⟨h.1, hall _ (Fq.gtrans (hG _) h.2)⟩))))
    refine wpQuiet_nil ?_
    rintro _ ⟨nq, rfl⟩
    have gq : Kp W (G nq) := hG nq
    clear cc0 cc1 cc2 cc3 cc4 cc5 hall hG
    go_wp2
    exact bodyPost_ret (v := .bool true) (by simp [results, Try.results5, go_sem]) rfl ⟨rfl, (Kp.trans kW gq)⟩)
end Go.Proofs.Ytponjofoenmbhaa
