import Derived.Test.YtdhndnehicodnaaProg
import Derived.Test.YtdhndnehicodnaaKXA0
import Derived.Test.YtdhndnehicodnaaKQM
import Derived.Test.YtdhndnehicodnaaKQA
import Derived.Test.YtdhndnehicodnaaKXQU
import Derived.Test.YtdhndnehicodnaaKEM
import Derived.Test.YtdhndnehicodnaaKEN
import Derived.Test.YtdhndnehicodnaaKEA
import Derived.Test.YtdhndnehicodnaaKEB
import Derived.Test.YtdhndnehicodnaaKEH
import Derived.Test.YtdhndnehicodnaaKEK
import Derived.Test.YtdhndnehicodnaaKEO
import Derived.Test.YtdhndnehicodnaaKER
import Derived.Test.YtdhndnehicodnaaKES
import Derived.Test.YtdhndnehicodnaaKNRv
import Derived.Test.YtdhndnehicodnaaKNRm
import Derived.Test.YtdhndnehicodnaaKNRa
import Derived.Test.YtdhndnehicodnaaKNRb
import Derived.Test.YtdhndnehicodnaaKNRc
import Derived.Test.YtdhndnehicodnaaKNRj
import Derived.Test.YtdhndnehicodnaaKNKa
import Derived.Test.YtdhndnehicodnaaKDCa
import Derived.Test.YtdhndnehicodnaaKDCb
import Derived.Test.YtdhndnehicodnaaKDCc
import Derived.Test.YtdhndnehicodnaaKDCd
import Derived.Test.YtdhndnehicodnaaKDCe
import Derived.Test.YtdhndnehicodnaaKDCf
import Derived.Test.YtdhndnehicodnaaKDCg
import Derived.Test.YtdhndnehicodnaaKDCh
import Derived.WalkKit
import Derived.ProofKit
import Derived.RowKit3
import Derived.WalkSpells
import Derived.StillTactics
import Derived.Deep.QuietTactic
import Derived.BigQuiet
import Derived.Below
import Derived.Deep.OwnRows
import Derived.OwnWalk
import Derived.Laws.BitsAllLaws
import Derived.Laws.Slices
import Derived.Laws.Bits64b
import Derived.Laws.FloatArith
import Derived.Deep.RegionHeld3
import Derived.Deep.CutRange
import Derived.Deep.DeepCutAuto
namespace Go.Proofs.Ytdhndnehicodnaa
open Go.RowKit
theorem fldE_ (x y z : Value) (w : World) : (Instr.field 26 (.agg #[x, y, z]) 1).run Try.prog w = .ok z w := by kernel_rfl
set_option maxRecDepth 20000 in
set_option maxHeartbeats 4000000 in
theorem dreadsA_ (X1 X2 D : Int) (A1 A2 L H L2 H2 : Nat) (R R2 : Int) (Z : Bool) (hdi : ∀ w : World, Calls Try.prog 6 #[.agg #[.int .u64 X1, .int .u64 X2, .int .i64 D]] w fun e w' => e = .returned (.agg #[.float .f64 A1, .float .f64 A2, .int .i64 D]) ∧ Kp w w') (hin : ∀ w : World, Calls Try.prog 9 #[.agg #[.int .u64 X1, .int .u64 X2]] w fun e w' => e = .returned (.agg #[.float .f64 A1, .float .f64 A2]) ∧ Kp w w') (hrd : ∀ w : World, Calls Try.prog 5 #[.agg #[.float .f64 A1, .float .f64 A2, .int .i64 D]] w fun e w' => e = .returned (.agg #[.float .f64 L, .float .f64 H, .int .i64 R]) ∧ Kp w w') (hst : ∀ w : World, Calls Try.prog 8 #[.agg #[.float .f64 A1, .float .f64 A2], .int .i64 D] w fun e w' => e = .returned (.agg #[.float .f64 L, .float .f64 H, .int .i64 R]) ∧ Kp w w') (hnw : ∀ w : World, Calls Try.prog 10 #[.agg #[.float .f64 A1, .float .f64 A2]] w fun e w' => e = .returned (.agg #[.float .f64 L2, .float .f64 H2, .int .i64 R2]) ∧ Kp w w') (his : ∀ w : World, Calls Try.prog 14 #[.agg #[.float .f64 A1, .float .f64 A2, .int .i64 D]] w fun e w' => e = .returned (.bool Z) ∧ Kp w w') (hrr : ∀ w : World, Calls Try.prog 7 #[.agg #[.int .u64 X1, .int .u64 X2, .int .i64 D]] w fun e w' => e = .returned (.agg #[.int .u64 ((L : Nat) : Int), .int .u64 ((H : Nat) : Int), .int .i64 R]) ∧ Kp w w') (hrn : ∀ w : World, Calls Try.prog 11 #[.agg #[.int .u64 X1, .int .u64 X2]] w fun e w' => e = .returned (.agg #[.int .u64 ((L2 : Nat) : Int), .int .u64 ((H2 : Nat) : Int), .int .i64 R2]) ∧ Kp w w') (t : (R == 0) = Z) (w : World) : Calls Try.prog 3 #[.agg #[.int .u64 X1, .int .u64 X2, .int .i64 D]] w fun e w' => e = .returned (.bool true) ∧ Kp w w' := by
  have hfl := fldE_ (.int .u64 ((L : Nat) : Int)) (.int .u64 ((H : Nat) : Int)) (.int .i64 R)
  cases Z
  all_goals (
    go_enter Try.func3, Try.ntmps3
    go_upto_region 1 with fail
    have sx := H3c.new w (.int .u64 X1) (.int .u64 X2) (.int .i64 D) 26
    have kw : Kp w (w.alloc (.cells #[.int .u64 X1, .int .u64 X2, .int .i64 D] 26)) := (Kp.refl w).alloc _
    generalize w.alloc (.cells #[.int .u64 X1, .int .u64 X2, .int .i64 D] 26) = W at sx kw ⊢
    obtain ⟨x0, x1, x2, x3, x4, x5⟩ := id sx
    refine Fq.wp_region_grow (by kernel_rfl) (by kernel_rfl) (fun ι _ G hG hall => ?_)
    have cc0 : ∀ n, (G n).cell? ⟨w.heap.size, 0, none⟩ = some (.int .u64 X1) := fun n => Fq.gkeep (hG n) x0
    have cc1 : ∀ n, (G n).cell? ⟨w.heap.size, 1, none⟩ = some (.int .u64 X2) := fun n => Fq.gkeep (hG n) x1
    have cc2 : ∀ n, (G n).cell? ⟨w.heap.size, 2, none⟩ = some (.int .i64 D) := fun n => Fq.gkeep (hG n) x2
    repeat (go_big_quiet_step (first | (go_at_call 6; exact (hdi _).mono (fun e w' h => ⟨h.1, hall _ (Fq.gtrans (hG _) h.2)⟩)) | (go_at_call 9; exact (hin _).mono (fun e w' h => ⟨h.1, hall _ (Fq.gtrans (hG _) h.2)⟩)) | (go_at_call 5; exact (hrd _).mono (fun e w' h => ⟨h.1, hall _ (Fq.gtrans (hG _) h.2)⟩)) | (go_at_call 8; exact (hst _).mono (fun e w' h => ⟨h.1, hall _ (Fq.gtrans (hG _) h.2)⟩)) | (go_at_call 10; exact (hnw _).mono (fun e w' h => ⟨h.1, hall _ (Fq.gtrans (hG _) h.2)⟩)) | (go_at_call 12; exact (nai_ _).mono (fun e w' h => ⟨h.1, hall _ (Fq.gtrans (hG _) h.2)⟩)) | (go_at_call 14; exact (his _).mono (fun e w' h => ⟨h.1, hall _ (Fq.gtrans (hG _) h.2)⟩)) | (go_at_call 7; exact (hrr _).mono (fun e w' h => ⟨h.1, hall _ (Fq.gtrans (hG _) h.2)⟩)) | (go_at_call 11; exact (hrn _).mono (fun e w' h => ⟨h.1, hall _ (Fq.gtrans (hG _) h.2)⟩)) | (go_at_call 13; exact (rnai_ _).mono (fun e w' h => ⟨h.1, hall _ (Fq.gtrans (hG _) h.2)⟩)) | (go_at_call 4; exact (dout_ _ _ _ _).mono (fun e w' h => ⟨h.1, hall _ (Fq.gtrans (hG _) h.2)⟩))))
    refine wpQuiet_nil ?_
    rintro _ ⟨nq, rfl⟩
    have gq : Kp W (G nq) := hG nq
    clear cc0 cc1 cc2 hall hG
    go_upto_region 3 with fail
    replace sx := H3c.keep sx gq
    replace kw := Kp.trans kw gq
    clear x0 x1 x2 x3 x4 x5 gq
    generalize (G nq) = W2 at sx kw ⊢
    clear nq G
    obtain ⟨x0, x1, x2, x3, x4, x5⟩ := id sx
    refine Fq.wp_region_grow (by kernel_rfl) (by kernel_rfl) (fun ι _ G hG hall => ?_)
    have cc0 : ∀ n, (G n).cell? ⟨w.heap.size, 0, none⟩ = some (.int .u64 X1) := fun n => Fq.gkeep (hG n) x0
    have cc1 : ∀ n, (G n).cell? ⟨w.heap.size, 1, none⟩ = some (.int .u64 X2) := fun n => Fq.gkeep (hG n) x1
    have cc2 : ∀ n, (G n).cell? ⟨w.heap.size, 2, none⟩ = some (.int .i64 D) := fun n => Fq.gkeep (hG n) x2
    repeat (go_big_quiet_step (first | (go_at_call 6; exact (hdi _).mono (fun e w' h => ⟨h.1, hall _ (Fq.gtrans (hG _) h.2)⟩)) | (go_at_call 9; exact (hin _).mono (fun e w' h => ⟨h.1, hall _ (Fq.gtrans (hG _) h.2)⟩)) | (go_at_call 5; exact (hrd _).mono (fun e w' h => ⟨h.1, hall _ (Fq.gtrans (hG _) h.2)⟩)) | (go_at_call 8; exact (hst _).mono (fun e w' h => ⟨h.1, hall _ (Fq.gtrans (hG _) h.2)⟩)) | (go_at_call 10; exact (hnw _).mono (fun e w' h => ⟨h.1, hall _ (Fq.gtrans (hG _) h.2)⟩)) | (go_at_call 12; exact (nai_ _).mono (fun e w' h => ⟨h.1, hall _ (Fq.gtrans (hG _) h.2)⟩)) | (go_at_call 14; exact (his _).mono (fun e w' h => ⟨h.1, hall _ (Fq.gtrans (hG _) h.2)⟩)) | (go_at_call 7; exact (hrr _).mono (fun e w' h => ⟨h.1, hall _ (Fq.gtrans (hG _) h.2)⟩)) | (go_at_call 11; exact (hrn _).mono (fun e w' h => ⟨h.1, hall _ (Fq.gtrans (hG _) h.2)⟩)) | (go_at_call 13; exact (rnai_ _).mono (fun e w' h => ⟨h.1, hall _ (Fq.gtrans (hG _) h.2)⟩)) | (go_at_call 4; exact (dout_ _ _ _ _).mono (fun e w' h => ⟨h.1, hall _ (Fq.gtrans (hG _) h.2)⟩))))
    refine wpQuiet_nil ?_
    rintro _ ⟨nq, rfl⟩
    have gq : Kp W2 (G nq) := hG nq
    clear cc0 cc1 cc2 hall hG
    go_upto_region 5 with fail
    replace sx := H3c.keep sx gq
    replace kw := Kp.trans kw gq
    clear x0 x1 x2 x3 x4 x5 gq
    generalize (G nq) = W3 at sx kw ⊢
    clear nq G
    obtain ⟨x0, x1, x2, x3, x4, x5⟩ := id sx
    refine Fq.wp_region_grow (by kernel_rfl) (by kernel_rfl) (fun ι _ G hG hall => ?_)
    have cc0 : ∀ n, (G n).cell? ⟨w.heap.size, 0, none⟩ = some (.int .u64 X1) := fun n => Fq.gkeep (hG n) x0
    have cc1 : ∀ n, (G n).cell? ⟨w.heap.size, 1, none⟩ = some (.int .u64 X2) := fun n => Fq.gkeep (hG n) x1
    have cc2 : ∀ n, (G n).cell? ⟨w.heap.size, 2, none⟩ = some (.int .i64 D) := fun n => Fq.gkeep (hG n) x2
    repeat (go_big_quiet_step (first | (go_at_call 6; exact (hdi _).mono (fun e w' h => ⟨h.1, hall _ (Fq.gtrans (hG _) h.2)⟩)) | (go_at_call 9; exact (hin _).mono (fun e w' h => ⟨h.1, hall _ (Fq.gtrans (hG _) h.2)⟩)) | (go_at_call 5; exact (hrd _).mono (fun e w' h => ⟨h.1, hall _ (Fq.gtrans (hG _) h.2)⟩)) | (go_at_call 8; exact (hst _).mono (fun e w' h => ⟨h.1, hall _ (Fq.gtrans (hG _) h.2)⟩)) | (go_at_call 10; exact (hnw _).mono (fun e w' h => ⟨h.1, hall _ (Fq.gtrans (hG _) h.2)⟩)) | (go_at_call 12; exact (nai_ _).mono (fun e w' h => ⟨h.1, hall _ (Fq.gtrans (hG _) h.2)⟩)) | (go_at_call 14; exact (his _).mono (fun e w' h => ⟨h.1, hall _ (Fq.gtrans (hG _) h.2)⟩)) | (go_at_call 7; exact (hrr _).mono (fun e w' h => ⟨h.1, hall _ (Fq.gtrans (hG _) h.2)⟩)) | (go_at_call 11; exact (hrn _).mono (fun e w' h => ⟨h.1, hall _ (Fq.gtrans (hG _) h.2)⟩)) | (go_at_call 13; exact (rnai_ _).mono (fun e w' h => ⟨h.1, hall _ (Fq.gtrans (hG _) h.2)⟩)) | (go_at_call 4; exact (dout_ _ _ _ _).mono (fun e w' h => ⟨h.1, hall _ (Fq.gtrans (hG _) h.2)⟩))))
    refine wpQuiet_nil ?_
    rintro _ ⟨nq, rfl⟩
    have gq : Kp W3 (G nq) := hG nq
    clear cc0 cc1 cc2 hall hG
    go_wp2
    exact bodyPost_ret (v := .bool true) (by simp [results, Try.results3, go_sem]) rfl ⟨rfl, (Kp.trans kw gq)⟩)
theorem dreadslaw_ (a b : Nat) (D : Int) (ha : a < 18446744073709551616) (hb : b < 18446744073709551616) (w : World) : Calls Try.prog 3 #[.agg #[.int .u64 ((a : Nat) : Int), .int .u64 ((b : Nat) : Int), .int .i64 D]] w fun e w' => e = .returned (.bool true) ∧ Kp w w' := by
  obtain ⟨L, H, r⟩ := Rd.ex a b ha hb
  have hrd := dread_ a b L H D r
  have hst := setA_ a b _ _ D _ hrd
  have hst2 := setA_ a b _ _ 16 _ (dread_ a b L H 16 r)
  exact dreadsA_ _ _ D a b _ _ _ _ _ _ _ (din_ a b D) (in9_ a b) hrd hst (newA_ a b _ _ _ hst2) (isnaiA_ a b _ _ D _ _ hrd rfl) (rdread_ a b L H D r) (rnewA_ _ _ _ _ _ (rdread_ a b L H 16 r)) rfl w
end Go.Proofs.Ytdhndnehicodnaa
