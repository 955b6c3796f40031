import Derived.Test.YtdhndnehicodnaaProg
import Derived.Test.YtdhndnehicodnaaKXA0
import Derived.Test.YtdhndnehicodnaaKQM
import Derived.Test.YtdhndnehicodnaaKQA
import Derived.Test.YtdhndnehicodnaaKXQU
import Derived.Test.YtdhndnehicodnaaKEM
import Derived.Test.YtdhndnehicodnaaKEN
import Derived.Test.YtdhndnehicodnaaKEA
import Derived.Test.YtdhndnehicodnaaKEB
import Derived.Test.YtdhndnehicodnaaKEH
import Derived.Test.YtdhndnehicodnaaKEK
import Derived.Test.YtdhndnehicodnaaKEO
import Derived.Test.YtdhndnehicodnaaKER
import Derived.Test.YtdhndnehicodnaaKES
import Derived.Test.YtdhndnehicodnaaKNRv
import Derived.Test.YtdhndnehicodnaaKNRm
import Derived.Test.YtdhndnehicodnaaKNRa
import Derived.Test.YtdhndnehicodnaaKNRb
import Derived.Test.YtdhndnehicodnaaKNRc
import Derived.Test.YtdhndnehicodnaaKNRj
import Derived.Test.YtdhndnehicodnaaKNKa
import Derived.Test.YtdhndnehicodnaaKDCa
import Derived.Test.YtdhndnehicodnaaKDCb
import Derived.WalkKit
import Derived.ProofKit
import Derived.RowKit3
import Derived.WalkSpells
import Derived.StillTactics
import Derived.Deep.QuietTactic
import Derived.BigQuiet
import Derived.Below
import Derived.Deep.OwnRows
import Derived.OwnWalk
import Derived.Laws.BitsAllLaws
import Derived.Laws.Slices
import Derived.Laws.Bits64b
import Derived.Laws.FloatArith
import Derived.Deep.RegionHeld3
import Derived.Deep.CutRange
import Derived.Deep.DeepCutAuto
namespace Go.Proofs.Ytdhndnehicodnaa
open Go.RowKit
set_option maxRecDepth 20000 in
set_option maxHeartbeats 1000000 in
theorem rdreadE4_ (X1 X2 : Int) (t1 : (X1 == 9218868437227405312) = true) (t2 : (X2 == 18442240474082181120) = true) (w : World) : Calls Try.prog 7 #[.agg #[.int .u64 X1, .int .u64 X2, .int .i64 4]] w fun e w' => e = .returned (.agg #[.int .u64 X1, .int .u64 X2, .int .i64 4]) ∧ Kp w w' := by
  go_enter Try.func7, Try.ntmps7
  go_upto_region 3 with fail
  have sx : H3c ((w.alloc (.cells #[.int .u64 X1, .int .u64 X2, .int .i64 4] 26)).alloc (.cells #[.int .u64 0, .int .u64 0, .int .i64 0] 26)) w.heap.size (.int .u64 X1) (.int .u64 X2) (.int .i64 4) := H3c.keep (H3c.new w (.int .u64 X1) (.int .u64 X2) (.int .i64 4) 26) ((Kp.refl _).alloc _)
  have sr := H3c.two w #[.int .u64 X1, .int .u64 X2, .int .i64 4] (.int .u64 0) (.int .u64 0) (.int .i64 0) 26 26
  have kw : Kp w ((w.alloc (.cells #[.int .u64 X1, .int .u64 X2, .int .i64 4] 26)).alloc (.cells #[.int .u64 0, .int .u64 0, .int .i64 0] 26)) := ((Kp.refl w).alloc _).alloc _
  generalize (w.alloc (.cells #[.int .u64 X1, .int .u64 X2, .int .i64 4] 26)).alloc (.cells #[.int .u64 0, .int .u64 0, .int .i64 0] 26) = W at sx sr kw ⊢
  obtain ⟨x0, x1, x2, x3, x4, x5⟩ := id sx
  refine Fq.wp_region_grow (by kernel_rfl) (by kernel_rfl) (fun ι _ G hG hall => ?_)
  have cc0 : ∀ n, (G n).cell? ⟨w.heap.size, 0, none⟩ = some (.int .u64 X1) := fun n => Fq.gkeep (hG n) x0
  have cc1 : ∀ n, (G n).cell? ⟨w.heap.size, 1, none⟩ = some (.int .u64 X2) := fun n => Fq.gkeep (hG n) x1
  repeat (go_big_quiet_step (first | (go_at_call 20; exact (rempty9_ _).mono (fun e w' h => ⟨h.1, hall _ (Fq.gtrans (hG _) h.2)⟩))))
  refine wpQuiet_nil ?_
  rintro _ ⟨nq, rfl⟩
  have gq : Kp W (G nq) := hG nq
  clear cc0 cc1 hall hG
  replace sx := H3c.keep sx gq
  replace sr := H3c.keep sr gq
  replace kw := Kp.trans kw gq
  clear x0 x1 x2 x3 x4 x5
  obtain ⟨x0, x1, x2, x3, x4, x5⟩ := id sx
  obtain ⟨r0, r1, r2, r3, r4, r5⟩ := id sr
  go_wp2
  exact bodyPost_ret (v := .agg #[.int .u64 X1, .int .u64 X2, .int .i64 4]) (by simp [results, Try.results7, go_sem, r0, r1, r2]) rfl ⟨rfl, (((kw.setCell (by simp) _).setCell (by simp) _).setCell (by simp) _)⟩
set_option maxRecDepth 20000 in
set_option maxHeartbeats 1000000 in
theorem rdreadN4_ (X1 X2 : Int) (E1 E2 : Bool) (t1 : (X1 == 9218868437227405312) = E1) (t2 : (X2 == 18442240474082181120) = E2) (u : (E1 && E2) = false) (hs : ∀ w : World, Calls Try.prog 21 #[.agg #[.int .u64 X1, .int .u64 X2]] w fun e w' => e = .returned (.bool false) ∧ Kp w w') (w : World) : Calls Try.prog 7 #[.agg #[.int .u64 X1, .int .u64 X2, .int .i64 4]] w fun e w' => e = .returned (.agg #[.int .u64 9218868437227405312, .int .u64 18442240474082181120, .int .i64 0]) ∧ Kp w w' := by
  cases E1 <;> cases E2
  case true.true => cases u
  all_goals (
    clear u
    go_enter Try.func7, Try.ntmps7
    go_upto_region 3 with fail
    have sx : H3c ((w.alloc (.cells #[.int .u64 X1, .int .u64 X2, .int .i64 4] 26)).alloc (.cells #[.int .u64 0, .int .u64 0, .int .i64 0] 26)) w.heap.size (.int .u64 X1) (.int .u64 X2) (.int .i64 4) := H3c.keep (H3c.new w (.int .u64 X1) (.int .u64 X2) (.int .i64 4) 26) ((Kp.refl _).alloc _)
    have sr := H3c.two w #[.int .u64 X1, .int .u64 X2, .int .i64 4] (.int .u64 0) (.int .u64 0) (.int .i64 0) 26 26
    have kw : Kp w ((w.alloc (.cells #[.int .u64 X1, .int .u64 X2, .int .i64 4] 26)).alloc (.cells #[.int .u64 0, .int .u64 0, .int .i64 0] 26)) := ((Kp.refl w).alloc _).alloc _
    generalize (w.alloc (.cells #[.int .u64 X1, .int .u64 X2, .int .i64 4] 26)).alloc (.cells #[.int .u64 0, .int .u64 0, .int .i64 0] 26) = W at sx sr kw ⊢
    obtain ⟨x0, x1, x2, x3, x4, x5⟩ := id sx
    refine Fq.wp_region_grow (by kernel_rfl) (by kernel_rfl) (fun ι _ G hG hall => ?_)
    have cc0 : ∀ n, (G n).cell? ⟨w.heap.size, 0, none⟩ = some (.int .u64 X1) := fun n => Fq.gkeep (hG n) x0
    have cc1 : ∀ n, (G n).cell? ⟨w.heap.size, 1, none⟩ = some (.int .u64 X2) := fun n => Fq.gkeep (hG n) x1
    repeat (go_big_quiet_step (first | (go_at_call 20; exact (rempty9_ _).mono (fun e w' h => ⟨h.1, hall _ (Fq.gtrans (hG _) h.2)⟩))))
    refine wpQuiet_nil ?_
    rintro _ ⟨nq, rfl⟩
    have gq : Kp W (G nq) := hG nq
    clear cc0 cc1 hall hG
    replace sx := H3c.keep sx gq
    replace sr := H3c.keep sr gq
    replace kw := Kp.trans kw gq
    clear x0 x1 x2 x3 x4 x5
    obtain ⟨x0, x1, x2, x3, x4, x5⟩ := id sx
    obtain ⟨r0, r1, r2, r3, r4, r5⟩ := id sr
    go_wp2_with (first | (go_at_call 21; refine (hs _).mono ?_; rintro e w1 ⟨rfl, g1⟩; replace kw := Kp.trans kw g1; replace sx := H3c.keep sx g1; replace sr := H3c.keep sr g1; clear g1 x0 x1 x2 x3 x4 x5 r0 r1 r2 r3 r4 r5; obtain ⟨x0, x1, x2, x3, x4, x5⟩ := id sx; obtain ⟨r0, r1, r2, r3, r4, r5⟩ := id sr) | (go_at_call 13; refine (rnai_ _).mono ?_; rintro e w5 ⟨rfl, g5⟩; replace kw := Kp.trans kw g5; replace sr := H3c.keep sr g5; clear r0 r1 r2 r3 r4 r5; obtain ⟨r0, r1, r2, r3, r4, r5⟩ := id sr))
    exact bodyPost_ret (v := .agg #[.int .u64 9218868437227405312, .int .u64 18442240474082181120, .int .i64 0]) (by simp [results, Try.results7, go_sem, r0, r1, r2]) rfl ⟨rfl, (((kw.setCell (by simp) _).setCell (by simp) _).setCell (by simp) _)⟩)
set_option maxRecDepth 20000 in
set_option maxHeartbeats 1000000 in
theorem rdreadS4_ (X1 X2 Y1 Y2 : Int) (E1 E2 : Bool) (t1 : (X1 == 9218868437227405312) = E1) (t2 : (X2 == 18442240474082181120) = E2) (u : (E1 && E2) = false) (hs : ∀ w : World, Calls Try.prog 21 #[.agg #[.int .u64 X1, .int .u64 X2]] w fun e w' => e = .returned (.bool true) ∧ Kp w w') (hr : ∀ w : World, Calls Try.prog 22 #[.agg #[.int .u64 X1, .int .u64 X2]] w fun e w' => e = .returned (.agg #[.int .u64 Y1, .int .u64 Y2]) ∧ Kp w w')  (w : World) : Calls Try.prog 7 #[.agg #[.int .u64 X1, .int .u64 X2, .int .i64 4]] w fun e w' => e = .returned (.agg #[.int .u64 Y1, .int .u64 Y2, .int .i64 4]) ∧ Kp w w' := by
  cases E1 <;> cases E2
  case true.true => cases u
  all_goals (
    clear u
    go_enter Try.func7, Try.ntmps7
    go_upto_region 3 with fail
    have sx : H3c ((w.alloc (.cells #[.int .u64 X1, .int .u64 X2, .int .i64 4] 26)).alloc (.cells #[.int .u64 0, .int .u64 0, .int .i64 0] 26)) w.heap.size (.int .u64 X1) (.int .u64 X2) (.int .i64 4) := H3c.keep (H3c.new w (.int .u64 X1) (.int .u64 X2) (.int .i64 4) 26) ((Kp.refl _).alloc _)
    have sr := H3c.two w #[.int .u64 X1, .int .u64 X2, .int .i64 4] (.int .u64 0) (.int .u64 0) (.int .i64 0) 26 26
    have kw : Kp w ((w.alloc (.cells #[.int .u64 X1, .int .u64 X2, .int .i64 4] 26)).alloc (.cells #[.int .u64 0, .int .u64 0, .int .i64 0] 26)) := ((Kp.refl w).alloc _).alloc _
    generalize (w.alloc (.cells #[.int .u64 X1, .int .u64 X2, .int .i64 4] 26)).alloc (.cells #[.int .u64 0, .int .u64 0, .int .i64 0] 26) = W at sx sr kw ⊢
    obtain ⟨x0, x1, x2, x3, x4, x5⟩ := id sx
    refine Fq.wp_region_grow (by kernel_rfl) (by kernel_rfl) (fun ι _ G hG hall => ?_)
    have cc0 : ∀ n, (G n).cell? ⟨w.heap.size, 0, none⟩ = some (.int .u64 X1) := fun n => Fq.gkeep (hG n) x0
    have cc1 : ∀ n, (G n).cell? ⟨w.heap.size, 1, none⟩ = some (.int .u64 X2) := fun n => Fq.gkeep (hG n) x1
    repeat (go_big_quiet_step (first | (go_at_call 20; exact (rempty9_ _).mono (fun e w' h => ⟨h.1, hall _ (Fq.gtrans (hG _) h.2)⟩))))
    refine wpQuiet_nil ?_
    rintro _ ⟨nq, rfl⟩
    have gq : Kp W (G nq) := hG nq
    clear cc0 cc1 hall hG
    replace sx := H3c.keep sx gq
    replace sr := H3c.keep sr gq
    replace kw := Kp.trans kw gq
    clear x0 x1 x2 x3 x4 x5
    obtain ⟨x0, x1, x2, x3, x4, x5⟩ := id sx
    obtain ⟨r0, r1, r2, r3, r4, r5⟩ := id sr
    go_wp2_with (first | (go_at_call 21; refine (hs _).mono ?_; rintro e w1 ⟨rfl, g1⟩; replace kw := Kp.trans kw g1; replace sx := H3c.keep sx g1; replace sr := H3c.keep sr g1; clear g1 x0 x1 x2 x3 x4 x5 r0 r1 r2 r3 r4 r5; obtain ⟨x0, x1, x2, x3, x4, x5⟩ := id sx; obtain ⟨r0, r1, r2, r3, r4, r5⟩ := id sr) | (go_at_call 22; refine (hr _).mono ?_; rintro e w2 ⟨rfl, g2⟩; replace kw := (Kp.trans kw g2).alloc (.cells #[.int .u64 Y1, .int .u64 Y2] 24); replace sx := H3c.keep (H3c.keep sx g2) ((Kp.refl w2).alloc (.cells #[.int .u64 Y1, .int .u64 Y2] 24)); replace sr := H3c.keep (H3c.keep sr g2) ((Kp.refl w2).alloc (.cells #[.int .u64 Y1, .int .u64 Y2] 24)); have qy := Fq.H2.new w2 (.int .u64 Y1) (.int .u64 Y2) 24; clear g2 x0 x1 x2 x3 x4 x5 r0 r1 r2 r3 r4 r5; obtain ⟨x0, x1, x2, x3, x4, x5⟩ := id sx; obtain ⟨r0, r1, r2, r3, r4, r5⟩ := id sr; obtain ⟨y0, y1, y2, y3⟩ := id qy))
    exact bodyPost_ret (v := .agg #[.int .u64 Y1, .int .u64 Y2, .int .i64 4]) (by simp [results, Try.results7, go_sem, r0, r1, r2]) rfl ⟨rfl, (((kw.setCell (by simp) _).setCell (by simp) _).setCell (by simp) _)⟩)
set_option maxRecDepth 20000 in
set_option maxHeartbeats 1000000 in
theorem rdreadE8_ (X1 X2 : Int) (t1 : (X1 == 9218868437227405312) = true) (t2 : (X2 == 18442240474082181120) = true) (w : World) : Calls Try.prog 7 #[.agg #[.int .u64 X1, .int .u64 X2, .int .i64 8]] w fun e w' => e = .returned (.agg #[.int .u64 X1, .int .u64 X2, .int .i64 4]) ∧ Kp w w' := by
  go_enter Try.func7, Try.ntmps7
  go_upto_region 3 with fail
  have sx : H3c ((w.alloc (.cells #[.int .u64 X1, .int .u64 X2, .int .i64 8] 26)).alloc (.cells #[.int .u64 0, .int .u64 0, .int .i64 0] 26)) w.heap.size (.int .u64 X1) (.int .u64 X2) (.int .i64 8) := H3c.keep (H3c.new w (.int .u64 X1) (.int .u64 X2) (.int .i64 8) 26) ((Kp.refl _).alloc _)
  have sr := H3c.two w #[.int .u64 X1, .int .u64 X2, .int .i64 8] (.int .u64 0) (.int .u64 0) (.int .i64 0) 26 26
  have kw : Kp w ((w.alloc (.cells #[.int .u64 X1, .int .u64 X2, .int .i64 8] 26)).alloc (.cells #[.int .u64 0, .int .u64 0, .int .i64 0] 26)) := ((Kp.refl w).alloc _).alloc _
  generalize (w.alloc (.cells #[.int .u64 X1, .int .u64 X2, .int .i64 8] 26)).alloc (.cells #[.int .u64 0, .int .u64 0, .int .i64 0] 26) = W at sx sr kw ⊢
  obtain ⟨x0, x1, x2, x3, x4, x5⟩ := id sx
  refine Fq.wp_region_grow (by kernel_rfl) (by kernel_rfl) (fun ι _ G hG hall => ?_)
  have cc0 : ∀ n, (G n).cell? ⟨w.heap.size, 0, none⟩ = some (.int .u64 X1) := fun n => Fq.gkeep (hG n) x0
  have cc1 : ∀ n, (G n).cell? ⟨w.heap.size, 1, none⟩ = some (.int .u64 X2) := fun n => Fq.gkeep (hG n) x1
  repeat (go_big_quiet_step (first | (go_at_call 20; exact (rempty9_ _).mono (fun e w' h => ⟨h.1, hall _ (Fq.gtrans (hG _) h.2)⟩))))
  refine wpQuiet_nil ?_
  rintro _ ⟨nq, rfl⟩
  have gq : Kp W (G nq) := hG nq
  clear cc0 cc1 hall hG
  replace sx := H3c.keep sx gq
  replace sr := H3c.keep sr gq
  replace kw := Kp.trans kw gq
  clear x0 x1 x2 x3 x4 x5
  obtain ⟨x0, x1, x2, x3, x4, x5⟩ := id sx
  obtain ⟨r0, r1, r2, r3, r4, r5⟩ := id sr
  go_wp2
  exact bodyPost_ret (v := .agg #[.int .u64 X1, .int .u64 X2, .int .i64 4]) (by simp [results, Try.results7, go_sem, r0, r1, r2]) rfl ⟨rfl, (((kw.setCell (by simp) _).setCell (by simp) _).setCell (by simp) _)⟩
set_option maxRecDepth 20000 in
set_option maxHeartbeats 1000000 in
theorem rdreadN8_ (X1 X2 : Int) (E1 E2 : Bool) (t1 : (X1 == 9218868437227405312) = E1) (t2 : (X2 == 18442240474082181120) = E2) (u : (E1 && E2) = false) (hs : ∀ w : World, Calls Try.prog 21 #[.agg #[.int .u64 X1, .int .u64 X2]] w fun e w' => e = .returned (.bool false) ∧ Kp w w') (w : World) : Calls Try.prog 7 #[.agg #[.int .u64 X1, .int .u64 X2, .int .i64 8]] w fun e w' => e = .returned (.agg #[.int .u64 9218868437227405312, .int .u64 18442240474082181120, .int .i64 0]) ∧ Kp w w' := by
  cases E1 <;> cases E2
  case true.true => cases u
  all_goals (
    clear u
    go_enter Try.func7, Try.ntmps7
    go_upto_region 3 with fail
    have sx : H3c ((w.alloc (.cells #[.int .u64 X1, .int .u64 X2, .int .i64 8] 26)).alloc (.cells #[.int .u64 0, .int .u64 0, .int .i64 0] 26)) w.heap.size (.int .u64 X1) (.int .u64 X2) (.int .i64 8) := H3c.keep (H3c.new w (.int .u64 X1) (.int .u64 X2) (.int .i64 8) 26) ((Kp.refl _).alloc _)
    have sr := H3c.two w #[.int .u64 X1, .int .u64 X2, .int .i64 8] (.int .u64 0) (.int .u64 0) (.int .i64 0) 26 26
    have kw : Kp w ((w.alloc (.cells #[.int .u64 X1, .int .u64 X2, .int .i64 8] 26)).alloc (.cells #[.int .u64 0, .int .u64 0, .int .i64 0] 26)) := ((Kp.refl w).alloc _).alloc _
    generalize (w.alloc (.cells #[.int .u64 X1, .int .u64 X2, .int .i64 8] 26)).alloc (.cells #[.int .u64 0, .int .u64 0, .int .i64 0] 26) = W at sx sr kw ⊢
    obtain ⟨x0, x1, x2, x3, x4, x5⟩ := id sx
    refine Fq.wp_region_grow (by kernel_rfl) (by kernel_rfl) (fun ι _ G hG hall => ?_)
    have cc0 : ∀ n, (G n).cell? ⟨w.heap.size, 0, none⟩ = some (.int .u64 X1) := fun n => Fq.gkeep (hG n) x0
    have cc1 : ∀ n, (G n).cell? ⟨w.heap.size, 1, none⟩ = some (.int .u64 X2) := fun n => Fq.gkeep (hG n) x1
    repeat (go_big_quiet_step (first | (go_at_call 20; exact (rempty9_ _).mono (fun e w' h => ⟨h.1, hall _ (Fq.gtrans (hG _) h.2)⟩))))
    refine wpQuiet_nil ?_
    rintro _ ⟨nq, rfl⟩
    have gq : Kp W (G nq) := hG nq
    clear cc0 cc1 hall hG
    replace sx := H3c.keep sx gq
    replace sr := H3c.keep sr gq
    replace kw := Kp.trans kw gq
    clear x0 x1 x2 x3 x4 x5
    obtain ⟨x0, x1, x2, x3, x4, x5⟩ := id sx
    obtain ⟨r0, r1, r2, r3, r4, r5⟩ := id sr
    go_wp2_with (first | (go_at_call 21; refine (hs _).mono ?_; rintro e w1 ⟨rfl, g1⟩; replace kw := Kp.trans kw g1; replace sx := H3c.keep sx g1; replace sr := H3c.keep sr g1; clear g1 x0 x1 x2 x3 x4 x5 r0 r1 r2 r3 r4 r5; obtain ⟨x0, x1, x2, x3, x4, x5⟩ := id sx; obtain ⟨r0, r1, r2, r3, r4, r5⟩ := id sr) | (go_at_call 13; refine (rnai_ _).mono ?_; rintro e w5 ⟨rfl, g5⟩; replace kw := Kp.trans kw g5; replace sr := H3c.keep sr g5; clear r0 r1 r2 r3 r4 r5; obtain ⟨r0, r1, r2, r3, r4, r5⟩ := id sr))
    exact bodyPost_ret (v := .agg #[.int .u64 9218868437227405312, .int .u64 18442240474082181120, .int .i64 0]) (by simp [results, Try.results7, go_sem, r0, r1, r2]) rfl ⟨rfl, (((kw.setCell (by simp) _).setCell (by simp) _).setCell (by simp) _)⟩)
set_option maxRecDepth 20000 in
set_option maxHeartbeats 1000000 in
theorem rdreadS8_ (X1 X2 Y1 Y2 : Int) (E1 E2 : Bool) (t1 : (X1 == 9218868437227405312) = E1) (t2 : (X2 == 18442240474082181120) = E2) (u : (E1 && E2) = false) (hs : ∀ w : World, Calls Try.prog 21 #[.agg #[.int .u64 X1, .int .u64 X2]] w fun e w' => e = .returned (.bool true) ∧ Kp w w') (hr : ∀ w : World, Calls Try.prog 22 #[.agg #[.int .u64 X1, .int .u64 X2]] w fun e w' => e = .returned (.agg #[.int .u64 Y1, .int .u64 Y2]) ∧ Kp w w')  (w : World) : Calls Try.prog 7 #[.agg #[.int .u64 X1, .int .u64 X2, .int .i64 8]] w fun e w' => e = .returned (.agg #[.int .u64 Y1, .int .u64 Y2, .int .i64 8]) ∧ Kp w w' := by
  cases E1 <;> cases E2
  case true.true => cases u
  all_goals (
    clear u
    go_enter Try.func7, Try.ntmps7
    go_upto_region 3 with fail
    have sx : H3c ((w.alloc (.cells #[.int .u64 X1, .int .u64 X2, .int .i64 8] 26)).alloc (.cells #[.int .u64 0, .int .u64 0, .int .i64 0] 26)) w.heap.size (.int .u64 X1) (.int .u64 X2) (.int .i64 8) := H3c.keep (H3c.new w (.int .u64 X1) (.int .u64 X2) (.int .i64 8) 26) ((Kp.refl _).alloc _)
    have sr := H3c.two w #[.int .u64 X1, .int .u64 X2, .int .i64 8] (.int .u64 0) (.int .u64 0) (.int .i64 0) 26 26
    have kw : Kp w ((w.alloc (.cells #[.int .u64 X1, .int .u64 X2, .int .i64 8] 26)).alloc (.cells #[.int .u64 0, .int .u64 0, .int .i64 0] 26)) := ((Kp.refl w).alloc _).alloc _
    generalize (w.alloc (.cells #[.int .u64 X1, .int .u64 X2, .int .i64 8] 26)).alloc (.cells #[.int .u64 0, .int .u64 0, .int .i64 0] 26) = W at sx sr kw ⊢
    obtain ⟨x0, x1, x2, x3, x4, x5⟩ := id sx
    refine Fq.wp_region_grow (by kernel_rfl) (by kernel_rfl) (fun ι _ G hG hall => ?_)
    have cc0 : ∀ n, (G n).cell? ⟨w.heap.size, 0, none⟩ = some (.int .u64 X1) := fun n => Fq.gkeep (hG n) x0
    have cc1 : ∀ n, (G n).cell? ⟨w.heap.size, 1, none⟩ = some (.int .u64 X2) := fun n => Fq.gkeep (hG n) x1
    repeat (go_big_quiet_step (first | (go_at_call 20; exact (rempty9_ _).mono (fun e w' h => ⟨h.1, hall _ (Fq.gtrans (hG _) h.2)⟩))))
    refine wpQuiet_nil ?_
    rintro _ ⟨nq, rfl⟩
    have gq : Kp W (G nq) := hG nq
    clear cc0 cc1 hall hG
    replace sx := H3c.keep sx gq
    replace sr := H3c.keep sr gq
    replace kw := Kp.trans kw gq
    clear x0 x1 x2 x3 x4 x5
    obtain ⟨x0, x1, x2, x3, x4, x5⟩ := id sx
    obtain ⟨r0, r1, r2, r3, r4, r5⟩ := id sr
    go_wp2_with (first | (go_at_call 21; refine (hs _).mono ?_; rintro e w1 ⟨rfl, g1⟩; replace kw := Kp.trans kw g1; replace sx := H3c.keep sx g1; replace sr := H3c.keep sr g1; clear g1 x0 x1 x2 x3 x4 x5 r0 r1 r2 r3 r4 r5; obtain ⟨x0, x1, x2, x3, x4, x5⟩ := id sx; obtain ⟨r0, r1, r2, r3, r4, r5⟩ := id sr) | (go_at_call 22; refine (hr _).mono ?_; rintro e w2 ⟨rfl, g2⟩; replace kw := (Kp.trans kw g2).alloc (.cells #[.int .u64 Y1, .int .u64 Y2] 24); replace sx := H3c.keep (H3c.keep sx g2) ((Kp.refl w2).alloc (.cells #[.int .u64 Y1, .int .u64 Y2] 24)); replace sr := H3c.keep (H3c.keep sr g2) ((Kp.refl w2).alloc (.cells #[.int .u64 Y1, .int .u64 Y2] 24)); have qy := Fq.H2.new w2 (.int .u64 Y1) (.int .u64 Y2) 24; clear g2 x0 x1 x2 x3 x4 x5 r0 r1 r2 r3 r4 r5; obtain ⟨x0, x1, x2, x3, x4, x5⟩ := id sx; obtain ⟨r0, r1, r2, r3, r4, r5⟩ := id sr; obtain ⟨y0, y1, y2, y3⟩ := id qy))
    exact bodyPost_ret (v := .agg #[.int .u64 Y1, .int .u64 Y2, .int .i64 8]) (by simp [results, Try.results7, go_sem, r0, r1, r2]) rfl ⟨rfl, (((kw.setCell (by simp) _).setCell (by simp) _).setCell (by simp) _)⟩)
set_option maxRecDepth 20000 in
set_option maxHeartbeats 1000000 in
theorem rdreadE12_ (X1 X2 : Int) (t1 : (X1 == 9218868437227405312) = true) (t2 : (X2 == 18442240474082181120) = true) (w : World) : Calls Try.prog 7 #[.agg #[.int .u64 X1, .int .u64 X2, .int .i64 12]] w fun e w' => e = .returned (.agg #[.int .u64 X1, .int .u64 X2, .int .i64 4]) ∧ Kp w w' := by
  go_enter Try.func7, Try.ntmps7
  go_upto_region 3 with fail
  have sx : H3c ((w.alloc (.cells #[.int .u64 X1, .int .u64 X2, .int .i64 12] 26)).alloc (.cells #[.int .u64 0, .int .u64 0, .int .i64 0] 26)) w.heap.size (.int .u64 X1) (.int .u64 X2) (.int .i64 12) := H3c.keep (H3c.new w (.int .u64 X1) (.int .u64 X2) (.int .i64 12) 26) ((Kp.refl _).alloc _)
  have sr := H3c.two w #[.int .u64 X1, .int .u64 X2, .int .i64 12] (.int .u64 0) (.int .u64 0) (.int .i64 0) 26 26
  have kw : Kp w ((w.alloc (.cells #[.int .u64 X1, .int .u64 X2, .int .i64 12] 26)).alloc (.cells #[.int .u64 0, .int .u64 0, .int .i64 0] 26)) := ((Kp.refl w).alloc _).alloc _
  generalize (w.alloc (.cells #[.int .u64 X1, .int .u64 X2, .int .i64 12] 26)).alloc (.cells #[.int .u64 0, .int .u64 0, .int .i64 0] 26) = W at sx sr kw ⊢
  obtain ⟨x0, x1, x2, x3, x4, x5⟩ := id sx
  refine Fq.wp_region_grow (by kernel_rfl) (by kernel_rfl) (fun ι _ G hG hall => ?_)
  have cc0 : ∀ n, (G n).cell? ⟨w.heap.size, 0, none⟩ = some (.int .u64 X1) := fun n => Fq.gkeep (hG n) x0
  have cc1 : ∀ n, (G n).cell? ⟨w.heap.size, 1, none⟩ = some (.int .u64 X2) := fun n => Fq.gkeep (hG n) x1
  repeat (go_big_quiet_step (first | (go_at_call 20; exact (rempty9_ _).mono (fun e w' h => ⟨h.1, hall _ (Fq.gtrans (hG _) h.2)⟩))))
  refine wpQuiet_nil ?_
  rintro _ ⟨nq, rfl⟩
  have gq : Kp W (G nq) := hG nq
  clear cc0 cc1 hall hG
  replace sx := H3c.keep sx gq
  replace sr := H3c.keep sr gq
  replace kw := Kp.trans kw gq
  clear x0 x1 x2 x3 x4 x5
  obtain ⟨x0, x1, x2, x3, x4, x5⟩ := id sx
  obtain ⟨r0, r1, r2, r3, r4, r5⟩ := id sr
  go_wp2
  exact bodyPost_ret (v := .agg #[.int .u64 X1, .int .u64 X2, .int .i64 4]) (by simp [results, Try.results7, go_sem, r0, r1, r2]) rfl ⟨rfl, (((kw.setCell (by simp) _).setCell (by simp) _).setCell (by simp) _)⟩
set_option maxRecDepth 20000 in
set_option maxHeartbeats 1000000 in
theorem rdreadN12_ (X1 X2 : Int) (E1 E2 : Bool) (t1 : (X1 == 9218868437227405312) = E1) (t2 : (X2 == 18442240474082181120) = E2) (u : (E1 && E2) = false) (hs : ∀ w : World, Calls Try.prog 21 #[.agg #[.int .u64 X1, .int .u64 X2]] w fun e w' => e = .returned (.bool false) ∧ Kp w w') (w : World) : Calls Try.prog 7 #[.agg #[.int .u64 X1, .int .u64 X2, .int .i64 12]] w fun e w' => e = .returned (.agg #[.int .u64 9218868437227405312, .int .u64 18442240474082181120, .int .i64 0]) ∧ Kp w w' := by
  cases E1 <;> cases E2
  case true.true => cases u
  all_goals (
    clear u
    go_enter Try.func7, Try.ntmps7
    go_upto_region 3 with fail
    have sx : H3c ((w.alloc (.cells #[.int .u64 X1, .int .u64 X2, .int .i64 12] 26)).alloc (.cells #[.int .u64 0, .int .u64 0, .int .i64 0] 26)) w.heap.size (.int .u64 X1) (.int .u64 X2) (.int .i64 12) := H3c.keep (H3c.new w (.int .u64 X1) (.int .u64 X2) (.int .i64 12) 26) ((Kp.refl _).alloc _)
    have sr := H3c.two w #[.int .u64 X1, .int .u64 X2, .int .i64 12] (.int .u64 0) (.int .u64 0) (.int .i64 0) 26 26
    have kw : Kp w ((w.alloc (.cells #[.int .u64 X1, .int .u64 X2, .int .i64 12] 26)).alloc (.cells #[.int .u64 0, .int .u64 0, .int .i64 0] 26)) := ((Kp.refl w).alloc _).alloc _
    generalize (w.alloc (.cells #[.int .u64 X1, .int .u64 X2, .int .i64 12] 26)).alloc (.cells #[.int .u64 0, .int .u64 0, .int .i64 0] 26) = W at sx sr kw ⊢
    obtain ⟨x0, x1, x2, x3, x4, x5⟩ := id sx
    refine Fq.wp_region_grow (by kernel_rfl) (by kernel_rfl) (fun ι _ G hG hall => ?_)
    have cc0 : ∀ n, (G n).cell? ⟨w.heap.size, 0, none⟩ = some (.int .u64 X1) := fun n => Fq.gkeep (hG n) x0
    have cc1 : ∀ n, (G n).cell? ⟨w.heap.size, 1, none⟩ = some (.int .u64 X2) := fun n => Fq.gkeep (hG n) x1
    repeat (go_big_quiet_step (first | (go_at_call 20; exact (rempty9_ _).mono (fun e w' h => ⟨h.1, hall _ (Fq.gtrans (hG _) h.2)⟩))))
    refine wpQuiet_nil ?_
    rintro _ ⟨nq, rfl⟩
    have gq : Kp W (G nq) := hG nq
    clear cc0 cc1 hall hG
    replace sx := H3c.keep sx gq
    replace sr := H3c.keep sr gq
    replace kw := Kp.trans kw gq
    clear x0 x1 x2 x3 x4 x5
    obtain ⟨x0, x1, x2, x3, x4, x5⟩ := id sx
    obtain ⟨r0, r1, r2, r3, r4, r5⟩ := id sr
    go_wp2_with (first | (go_at_call 21; refine (hs _).mono ?_; rintro e w1 ⟨rfl, g1⟩; replace kw := Kp.trans kw g1; replace sx := H3c.keep sx g1; replace sr := H3c.keep sr g1; clear g1 x0 x1 x2 x3 x4 x5 r0 r1 r2 r3 r4 r5; obtain ⟨x0, x1, x2, x3, x4, x5⟩ := id sx; obtain ⟨r0, r1, r2, r3, r4, r5⟩ := id sr) | (go_at_call 13; refine (rnai_ _).mono ?_; rintro e w5 ⟨rfl, g5⟩; replace kw := Kp.trans kw g5; replace sr := H3c.keep sr g5; clear r0 r1 r2 r3 r4 r5; obtain ⟨r0, r1, r2, r3, r4, r5⟩ := id sr))
    exact bodyPost_ret (v := .agg #[.int .u64 9218868437227405312, .int .u64 18442240474082181120, .int .i64 0]) (by simp [results, Try.results7, go_sem, r0, r1, r2]) rfl ⟨rfl, (((kw.setCell (by simp) _).setCell (by simp) _).setCell (by simp) _)⟩)
set_option maxRecDepth 20000 in
set_option maxHeartbeats 1000000 in
theorem rdreadS12_ (X1 X2 Y1 Y2 : Int) (E1 E2 : Bool) (t1 : (X1 == 9218868437227405312) = E1) (t2 : (X2 == 18442240474082181120) = E2) (u : (E1 && E2) = false) (hs : ∀ w : World, Calls Try.prog 21 #[.agg #[.int .u64 X1, .int .u64 X2]] w fun e w' => e = .returned (.bool true) ∧ Kp w w') (hr : ∀ w : World, Calls Try.prog 22 #[.agg #[.int .u64 X1, .int .u64 X2]] w fun e w' => e = .returned (.agg #[.int .u64 Y1, .int .u64 Y2]) ∧ Kp w w')  (w : World) : Calls Try.prog 7 #[.agg #[.int .u64 X1, .int .u64 X2, .int .i64 12]] w fun e w' => e = .returned (.agg #[.int .u64 Y1, .int .u64 Y2, .int .i64 12]) ∧ Kp w w' := by
  cases E1 <;> cases E2
  case true.true => cases u
  all_goals (
    clear u
    go_enter Try.func7, Try.ntmps7
    go_upto_region 3 with fail
    have sx : H3c ((w.alloc (.cells #[.int .u64 X1, .int .u64 X2, .int .i64 12] 26)).alloc (.cells #[.int .u64 0, .int .u64 0, .int .i64 0] 26)) w.heap.size (.int .u64 X1) (.int .u64 X2) (.int .i64 12) := H3c.keep (H3c.new w (.int .u64 X1) (.int .u64 X2) (.int .i64 12) 26) ((Kp.refl _).alloc _)
    have sr := H3c.two w #[.int .u64 X1, .int .u64 X2, .int .i64 12] (.int .u64 0) (.int .u64 0) (.int .i64 0) 26 26
    have kw : Kp w ((w.alloc (.cells #[.int .u64 X1, .int .u64 X2, .int .i64 12] 26)).alloc (.cells #[.int .u64 0, .int .u64 0, .int .i64 0] 26)) := ((Kp.refl w).alloc _).alloc _
    generalize (w.alloc (.cells #[.int .u64 X1, .int .u64 X2, .int .i64 12] 26)).alloc (.cells #[.int .u64 0, .int .u64 0, .int .i64 0] 26) = W at sx sr kw ⊢
    obtain ⟨x0, x1, x2, x3, x4, x5⟩ := id sx
    refine Fq.wp_region_grow (by kernel_rfl) (by kernel_rfl) (fun ι _ G hG hall => ?_)
    have cc0 : ∀ n, (G n).cell? ⟨w.heap.size, 0, none⟩ = some (.int .u64 X1) := fun n => Fq.gkeep (hG n) x0
    have cc1 : ∀ n, (G n).cell? ⟨w.heap.size, 1, none⟩ = some (.int .u64 X2) := fun n => Fq.gkeep (hG n) x1
    repeat (go_big_quiet_step (first | (go_at_call 20; exact (rempty9_ _).mono (fun e w' h => ⟨h.1, hall _ (Fq.gtrans (hG _) h.2)⟩))))
    refine wpQuiet_nil ?_
    rintro _ ⟨nq, rfl⟩
    have gq : Kp W (G nq) := hG nq
    clear cc0 cc1 hall hG
    replace sx := H3c.keep sx gq
    replace sr := H3c.keep sr gq
    replace kw := Kp.trans kw gq
    clear x0 x1 x2 x3 x4 x5
    obtain ⟨x0, x1, x2, x3, x4, x5⟩ := id sx
    obtain ⟨r0, r1, r2, r3, r4, r5⟩ := id sr
    go_wp2_with (first | (go_at_call 21; refine (hs _).mono ?_; rintro e w1 ⟨rfl, g1⟩; replace kw := Kp.trans kw g1; replace sx := H3c.keep sx g1; replace sr := H3c.keep sr g1; clear g1 x0 x1 x2 x3 x4 x5 r0 r1 r2 r3 r4 r5; obtain ⟨x0, x1, x2, x3, x4, x5⟩ := id sx; obtain ⟨r0, r1, r2, r3, r4, r5⟩ := id sr) | (go_at_call 22; refine (hr _).mono ?_; rintro e w2 ⟨rfl, g2⟩; replace kw := (Kp.trans kw g2).alloc (.cells #[.int .u64 Y1, .int .u64 Y2] 24); replace sx := H3c.keep (H3c.keep sx g2) ((Kp.refl w2).alloc (.cells #[.int .u64 Y1, .int .u64 Y2] 24)); replace sr := H3c.keep (H3c.keep sr g2) ((Kp.refl w2).alloc (.cells #[.int .u64 Y1, .int .u64 Y2] 24)); have qy := Fq.H2.new w2 (.int .u64 Y1) (.int .u64 Y2) 24; clear g2 x0 x1 x2 x3 x4 x5 r0 r1 r2 r3 r4 r5; obtain ⟨x0, x1, x2, x3, x4, x5⟩ := id sx; obtain ⟨r0, r1, r2, r3, r4, r5⟩ := id sr; obtain ⟨y0, y1, y2, y3⟩ := id qy))
    exact bodyPost_ret (v := .agg #[.int .u64 Y1, .int .u64 Y2, .int .i64 12]) (by simp [results, Try.results7, go_sem, r0, r1, r2]) rfl ⟨rfl, (((kw.setCell (by simp) _).setCell (by simp) _).setCell (by simp) _)⟩)
set_option maxRecDepth 20000 in
set_option maxHeartbeats 1000000 in
theorem rdreadE16_ (X1 X2 : Int) (t1 : (X1 == 9218868437227405312) = true) (t2 : (X2 == 18442240474082181120) = true) (w : World) : Calls Try.prog 7 #[.agg #[.int .u64 X1, .int .u64 X2, .int .i64 16]] w fun e w' => e = .returned (.agg #[.int .u64 X1, .int .u64 X2, .int .i64 4]) ∧ Kp w w' := by
  go_enter Try.func7, Try.ntmps7
  go_upto_region 3 with fail
  have sx : H3c ((w.alloc (.cells #[.int .u64 X1, .int .u64 X2, .int .i64 16] 26)).alloc (.cells #[.int .u64 0, .int .u64 0, .int .i64 0] 26)) w.heap.size (.int .u64 X1) (.int .u64 X2) (.int .i64 16) := H3c.keep (H3c.new w (.int .u64 X1) (.int .u64 X2) (.int .i64 16) 26) ((Kp.refl _).alloc _)
  have sr := H3c.two w #[.int .u64 X1, .int .u64 X2, .int .i64 16] (.int .u64 0) (.int .u64 0) (.int .i64 0) 26 26
  have kw : Kp w ((w.alloc (.cells #[.int .u64 X1, .int .u64 X2, .int .i64 16] 26)).alloc (.cells #[.int .u64 0, .int .u64 0, .int .i64 0] 26)) := ((Kp.refl w).alloc _).alloc _
  generalize (w.alloc (.cells #[.int .u64 X1, .int .u64 X2, .int .i64 16] 26)).alloc (.cells #[.int .u64 0, .int .u64 0, .int .i64 0] 26) = W at sx sr kw ⊢
  obtain ⟨x0, x1, x2, x3, x4, x5⟩ := id sx
  refine Fq.wp_region_grow (by kernel_rfl) (by kernel_rfl) (fun ι _ G hG hall => ?_)
  have cc0 : ∀ n, (G n).cell? ⟨w.heap.size, 0, none⟩ = some (.int .u64 X1) := fun n => Fq.gkeep (hG n) x0
  have cc1 : ∀ n, (G n).cell? ⟨w.heap.size, 1, none⟩ = some (.int .u64 X2) := fun n => Fq.gkeep (hG n) x1
  repeat (go_big_quiet_step (first | (go_at_call 20; exact (rempty9_ _).mono (fun e w' h => ⟨h.1, hall _ (Fq.gtrans (hG _) h.2)⟩))))
  refine wpQuiet_nil ?_
  rintro _ ⟨nq, rfl⟩
  have gq : Kp W (G nq) := hG nq
  clear cc0 cc1 hall hG
  replace sx := H3c.keep sx gq
  replace sr := H3c.keep sr gq
  replace kw := Kp.trans kw gq
  clear x0 x1 x2 x3 x4 x5
  obtain ⟨x0, x1, x2, x3, x4, x5⟩ := id sx
  obtain ⟨r0, r1, r2, r3, r4, r5⟩ := id sr
  go_wp2
  exact bodyPost_ret (v := .agg #[.int .u64 X1, .int .u64 X2, .int .i64 4]) (by simp [results, Try.results7, go_sem, r0, r1, r2]) rfl ⟨rfl, (((kw.setCell (by simp) _).setCell (by simp) _).setCell (by simp) _)⟩
set_option maxRecDepth 20000 in
set_option maxHeartbeats 1000000 in
theorem rdreadN16_ (X1 X2 : Int) (E1 E2 : Bool) (t1 : (X1 == 9218868437227405312) = E1) (t2 : (X2 == 18442240474082181120) = E2) (u : (E1 && E2) = false) (hs : ∀ w : World, Calls Try.prog 21 #[.agg #[.int .u64 X1, .int .u64 X2]] w fun e w' => e = .returned (.bool false) ∧ Kp w w') (w : World) : Calls Try.prog 7 #[.agg #[.int .u64 X1, .int .u64 X2, .int .i64 16]] w fun e w' => e = .returned (.agg #[.int .u64 9218868437227405312, .int .u64 18442240474082181120, .int .i64 0]) ∧ Kp w w' := by
  cases E1 <;> cases E2
  case true.true => cases u
  all_goals (
    clear u
    go_enter Try.func7, Try.ntmps7
    go_upto_region 3 with fail
    have sx : H3c ((w.alloc (.cells #[.int .u64 X1, .int .u64 X2, .int .i64 16] 26)).alloc (.cells #[.int .u64 0, .int .u64 0, .int .i64 0] 26)) w.heap.size (.int .u64 X1) (.int .u64 X2) (.int .i64 16) := H3c.keep (H3c.new w (.int .u64 X1) (.int .u64 X2) (.int .i64 16) 26) ((Kp.refl _).alloc _)
    have sr := H3c.two w #[.int .u64 X1, .int .u64 X2, .int .i64 16] (.int .u64 0) (.int .u64 0) (.int .i64 0) 26 26
    have kw : Kp w ((w.alloc (.cells #[.int .u64 X1, .int .u64 X2, .int .i64 16] 26)).alloc (.cells #[.int .u64 0, .int .u64 0, .int .i64 0] 26)) := ((Kp.refl w).alloc _).alloc _
    generalize (w.alloc (.cells #[.int .u64 X1, .int .u64 X2, .int .i64 16] 26)).alloc (.cells #[.int .u64 0, .int .u64 0, .int .i64 0] 26) = W at sx sr kw ⊢
    obtain ⟨x0, x1, x2, x3, x4, x5⟩ := id sx
    refine Fq.wp_region_grow (by kernel_rfl) (by kernel_rfl) (fun ι _ G hG hall => ?_)
    have cc0 : ∀ n, (G n).cell? ⟨w.heap.size, 0, none⟩ = some (.int .u64 X1) := fun n => Fq.gkeep (hG n) x0
    have cc1 : ∀ n, (G n).cell? ⟨w.heap.size, 1, none⟩ = some (.int .u64 X2) := fun n => Fq.gkeep (hG n) x1
    repeat (go_big_quiet_step (first | (go_at_call 20; exact (rempty9_ _).mono (fun e w' h => ⟨h.1, hall _ (Fq.gtrans (hG _) h.2)⟩))))
    refine wpQuiet_nil ?_
    rintro _ ⟨nq, rfl⟩
    have gq : Kp W (G nq) := hG nq
    clear cc0 cc1 hall hG
    replace sx := H3c.keep sx gq
    replace sr := H3c.keep sr gq
    replace kw := Kp.trans kw gq
    clear x0 x1 x2 x3 x4 x5
    obtain ⟨x0, x1, x2, x3, x4, x5⟩ := id sx
    obtain ⟨r0, r1, r2, r3, r4, r5⟩ := id sr
    go_wp2_with (first | (go_at_call 21; refine (hs _).mono ?_; rintro e w1 ⟨rfl, g1⟩; replace kw := Kp.trans kw g1; replace sx := H3c.keep sx g1; replace sr := H3c.keep sr g1; clear g1 x0 x1 x2 x3 x4 x5 r0 r1 r2 r3 r4 r5; obtain ⟨x0, x1, x2, x3, x4, x5⟩ := id sx; obtain ⟨r0, r1, r2, r3, r4, r5⟩ := id sr) | (go_at_call 13; refine (rnai_ _).mono ?_; rintro e w5 ⟨rfl, g5⟩; replace kw := Kp.trans kw g5; replace sr := H3c.keep sr g5; clear r0 r1 r2 r3 r4 r5; obtain ⟨r0, r1, r2, r3, r4, r5⟩ := id sr))
    exact bodyPost_ret (v := .agg #[.int .u64 9218868437227405312, .int .u64 18442240474082181120, .int .i64 0]) (by simp [results, Try.results7, go_sem, r0, r1, r2]) rfl ⟨rfl, (((kw.setCell (by simp) _).setCell (by simp) _).setCell (by simp) _)⟩)
set_option maxRecDepth 20000 in
set_option maxHeartbeats 1000000 in
theorem rdreadS16_ (X1 X2 Y1 Y2 : Int) (E1 E2 : Bool) (t1 : (X1 == 9218868437227405312) = E1) (t2 : (X2 == 18442240474082181120) = E2) (u : (E1 && E2) = false) (hs : ∀ w : World, Calls Try.prog 21 #[.agg #[.int .u64 X1, .int .u64 X2]] w fun e w' => e = .returned (.bool true) ∧ Kp w w') (hr : ∀ w : World, Calls Try.prog 22 #[.agg #[.int .u64 X1, .int .u64 X2]] w fun e w' => e = .returned (.agg #[.int .u64 Y1, .int .u64 Y2]) ∧ Kp w w') (hb : ∀ w : World, Calls Try.prog 23 #[.agg #[.int .u64 Y1, .int .u64 Y2]] w fun e w' => e = .returned (.bool true) ∧ Kp w w') (w : World) : Calls Try.prog 7 #[.agg #[.int .u64 X1, .int .u64 X2, .int .i64 16]] w fun e w' => e = .returned (.agg #[.int .u64 Y1, .int .u64 Y2, .int .i64 16]) ∧ Kp w w' := by
  cases E1 <;> cases E2
  case true.true => cases u
  all_goals (
    clear u
    go_enter Try.func7, Try.ntmps7
    go_upto_region 3 with fail
    have sx : H3c ((w.alloc (.cells #[.int .u64 X1, .int .u64 X2, .int .i64 16] 26)).alloc (.cells #[.int .u64 0, .int .u64 0, .int .i64 0] 26)) w.heap.size (.int .u64 X1) (.int .u64 X2) (.int .i64 16) := H3c.keep (H3c.new w (.int .u64 X1) (.int .u64 X2) (.int .i64 16) 26) ((Kp.refl _).alloc _)
    have sr := H3c.two w #[.int .u64 X1, .int .u64 X2, .int .i64 16] (.int .u64 0) (.int .u64 0) (.int .i64 0) 26 26
    have kw : Kp w ((w.alloc (.cells #[.int .u64 X1, .int .u64 X2, .int .i64 16] 26)).alloc (.cells #[.int .u64 0, .int .u64 0, .int .i64 0] 26)) := ((Kp.refl w).alloc _).alloc _
    generalize (w.alloc (.cells #[.int .u64 X1, .int .u64 X2, .int .i64 16] 26)).alloc (.cells #[.int .u64 0, .int .u64 0, .int .i64 0] 26) = W at sx sr kw ⊢
    obtain ⟨x0, x1, x2, x3, x4, x5⟩ := id sx
    refine Fq.wp_region_grow (by kernel_rfl) (by kernel_rfl) (fun ι _ G hG hall => ?_)
    have cc0 : ∀ n, (G n).cell? ⟨w.heap.size, 0, none⟩ = some (.int .u64 X1) := fun n => Fq.gkeep (hG n) x0
    have cc1 : ∀ n, (G n).cell? ⟨w.heap.size, 1, none⟩ = some (.int .u64 X2) := fun n => Fq.gkeep (hG n) x1
    repeat (go_big_quiet_step (first | (go_at_call 20; exact (rempty9_ _).mono (fun e w' h => ⟨h.1, hall _ (Fq.gtrans (hG _) h.2)⟩))))
    refine wpQuiet_nil ?_
    rintro _ ⟨nq, rfl⟩
    have gq : Kp W (G nq) := hG nq
    clear cc0 cc1 hall hG
    replace sx := H3c.keep sx gq
    replace sr := H3c.keep sr gq
    replace kw := Kp.trans kw gq
    clear x0 x1 x2 x3 x4 x5
    obtain ⟨x0, x1, x2, x3, x4, x5⟩ := id sx
    obtain ⟨r0, r1, r2, r3, r4, r5⟩ := id sr
    go_wp2_with (first | (go_at_call 21; refine (hs _).mono ?_; rintro e w1 ⟨rfl, g1⟩; replace kw := Kp.trans kw g1; replace sx := H3c.keep sx g1; replace sr := H3c.keep sr g1; clear g1 x0 x1 x2 x3 x4 x5 r0 r1 r2 r3 r4 r5; obtain ⟨x0, x1, x2, x3, x4, x5⟩ := id sx; obtain ⟨r0, r1, r2, r3, r4, r5⟩ := id sr) | (go_at_call 22; refine (hr _).mono ?_; rintro e w2 ⟨rfl, g2⟩; replace kw := (Kp.trans kw g2).alloc (.cells #[.int .u64 Y1, .int .u64 Y2] 24); replace sx := H3c.keep (H3c.keep sx g2) ((Kp.refl w2).alloc (.cells #[.int .u64 Y1, .int .u64 Y2] 24)); replace sr := H3c.keep (H3c.keep sr g2) ((Kp.refl w2).alloc (.cells #[.int .u64 Y1, .int .u64 Y2] 24)); have qy := Fq.H2.new w2 (.int .u64 Y1) (.int .u64 Y2) 24; clear g2 x0 x1 x2 x3 x4 x5 r0 r1 r2 r3 r4 r5; obtain ⟨x0, x1, x2, x3, x4, x5⟩ := id sx; obtain ⟨r0, r1, r2, r3, r4, r5⟩ := id sr; obtain ⟨y0, y1, y2, y3⟩ := id qy) | (go_at_call 23; refine (hb _).mono ?_; rintro e w3 ⟨rfl, g3⟩; replace kw := Kp.trans kw g3; replace sx := H3c.keep sx g3; replace sr := H3c.keep sr g3; replace qy := Fq.H2.keep qy g3; clear g3 x0 x1 x2 x3 x4 x5 r0 r1 r2 r3 r4 r5 y0 y1 y2 y3; obtain ⟨x0, x1, x2, x3, x4, x5⟩ := id sx; obtain ⟨r0, r1, r2, r3, r4, r5⟩ := id sr; obtain ⟨y0, y1, y2, y3⟩ := id qy))
    exact bodyPost_ret (v := .agg #[.int .u64 Y1, .int .u64 Y2, .int .i64 16]) (by simp [results, Try.results7, go_sem, r0, r1, r2]) rfl ⟨rfl, (((kw.setCell (by simp) _).setCell (by simp) _).setCell (by simp) _)⟩)
set_option maxRecDepth 20000 in
set_option maxHeartbeats 1000000 in
theorem rdreadT16_ (X1 X2 Y1 Y2 : Int) (E1 E2 : Bool) (t1 : (X1 == 9218868437227405312) = E1) (t2 : (X2 == 18442240474082181120) = E2) (u : (E1 && E2) = false) (hs : ∀ w : World, Calls Try.prog 21 #[.agg #[.int .u64 X1, .int .u64 X2]] w fun e w' => e = .returned (.bool true) ∧ Kp w w') (hr : ∀ w : World, Calls Try.prog 22 #[.agg #[.int .u64 X1, .int .u64 X2]] w fun e w' => e = .returned (.agg #[.int .u64 Y1, .int .u64 Y2]) ∧ Kp w w') (hb : ∀ w : World, Calls Try.prog 23 #[.agg #[.int .u64 Y1, .int .u64 Y2]] w fun e w' => e = .returned (.bool false) ∧ Kp w w') (w : World) : Calls Try.prog 7 #[.agg #[.int .u64 X1, .int .u64 X2, .int .i64 16]] w fun e w' => e = .returned (.agg #[.int .u64 Y1, .int .u64 Y2, .int .i64 12]) ∧ Kp w w' := by
  cases E1 <;> cases E2
  case true.true => cases u
  all_goals (
    clear u
    go_enter Try.func7, Try.ntmps7
    go_upto_region 3 with fail
    have sx : H3c ((w.alloc (.cells #[.int .u64 X1, .int .u64 X2, .int .i64 16] 26)).alloc (.cells #[.int .u64 0, .int .u64 0, .int .i64 0] 26)) w.heap.size (.int .u64 X1) (.int .u64 X2) (.int .i64 16) := H3c.keep (H3c.new w (.int .u64 X1) (.int .u64 X2) (.int .i64 16) 26) ((Kp.refl _).alloc _)
    have sr := H3c.two w #[.int .u64 X1, .int .u64 X2, .int .i64 16] (.int .u64 0) (.int .u64 0) (.int .i64 0) 26 26
    have kw : Kp w ((w.alloc (.cells #[.int .u64 X1, .int .u64 X2, .int .i64 16] 26)).alloc (.cells #[.int .u64 0, .int .u64 0, .int .i64 0] 26)) := ((Kp.refl w).alloc _).alloc _
    generalize (w.alloc (.cells #[.int .u64 X1, .int .u64 X2, .int .i64 16] 26)).alloc (.cells #[.int .u64 0, .int .u64 0, .int .i64 0] 26) = W at sx sr kw ⊢
    obtain ⟨x0, x1, x2, x3, x4, x5⟩ := id sx
    refine Fq.wp_region_grow (by kernel_rfl) (by kernel_rfl) (fun ι _ G hG hall => ?_)
    have cc0 : ∀ n, (G n).cell? ⟨w.heap.size, 0, none⟩ = some (.int .u64 X1) := fun n => Fq.gkeep (hG n) x0
    have cc1 : ∀ n, (G n).cell? ⟨w.heap.size, 1, none⟩ = some (.int .u64 X2) := fun n => Fq.gkeep (hG n) x1
    repeat (go_big_quiet_step (first | (go_at_call 20; exact (rempty9_ _).mono (fun e w' h => ⟨h.1, hall _ (Fq.gtrans (hG _) h.2)⟩))))
    refine wpQuiet_nil ?_
    rintro _ ⟨nq, rfl⟩
    have gq : Kp W (G nq) := hG nq
    clear cc0 cc1 hall hG
    replace sx := H3c.keep sx gq
    replace sr := H3c.keep sr gq
    replace kw := Kp.trans kw gq
    clear x0 x1 x2 x3 x4 x5
    obtain ⟨x0, x1, x2, x3, x4, x5⟩ := id sx
    obtain ⟨r0, r1, r2, r3, r4, r5⟩ := id sr
    go_wp2_with (first | (go_at_call 21; refine (hs _).mono ?_; rintro e w1 ⟨rfl, g1⟩; replace kw := Kp.trans kw g1; replace sx := H3c.keep sx g1; replace sr := H3c.keep sr g1; clear g1 x0 x1 x2 x3 x4 x5 r0 r1 r2 r3 r4 r5; obtain ⟨x0, x1, x2, x3, x4, x5⟩ := id sx; obtain ⟨r0, r1, r2, r3, r4, r5⟩ := id sr) | (go_at_call 22; refine (hr _).mono ?_; rintro e w2 ⟨rfl, g2⟩; replace kw := (Kp.trans kw g2).alloc (.cells #[.int .u64 Y1, .int .u64 Y2] 24); replace sx := H3c.keep (H3c.keep sx g2) ((Kp.refl w2).alloc (.cells #[.int .u64 Y1, .int .u64 Y2] 24)); replace sr := H3c.keep (H3c.keep sr g2) ((Kp.refl w2).alloc (.cells #[.int .u64 Y1, .int .u64 Y2] 24)); have qy := Fq.H2.new w2 (.int .u64 Y1) (.int .u64 Y2) 24; clear g2 x0 x1 x2 x3 x4 x5 r0 r1 r2 r3 r4 r5; obtain ⟨x0, x1, x2, x3, x4, x5⟩ := id sx; obtain ⟨r0, r1, r2, r3, r4, r5⟩ := id sr; obtain ⟨y0, y1, y2, y3⟩ := id qy) | (go_at_call 23; refine (hb _).mono ?_; rintro e w3 ⟨rfl, g3⟩; replace kw := Kp.trans kw g3; replace sx := H3c.keep sx g3; replace sr := H3c.keep sr g3; replace qy := Fq.H2.keep qy g3; clear g3 x0 x1 x2 x3 x4 x5 r0 r1 r2 r3 r4 r5 y0 y1 y2 y3; obtain ⟨x0, x1, x2, x3, x4, x5⟩ := id sx; obtain ⟨r0, r1, r2, r3, r4, r5⟩ := id sr; obtain ⟨y0, y1, y2, y3⟩ := id qy))
    exact bodyPost_ret (v := .agg #[.int .u64 Y1, .int .u64 Y2, .int .i64 12]) (by simp [results, Try.results7, go_sem, r0, r1, r2]) rfl ⟨rfl, (((kw.setCell (by simp) _).setCell (by simp) _).setCell (by simp) _)⟩)
end Go.Proofs.Ytdhndnehicodnaa
