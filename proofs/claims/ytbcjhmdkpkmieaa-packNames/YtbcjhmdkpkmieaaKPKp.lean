import Derived.Test.YtbcjhmdkpkmieaaKPKo
namespace Go.Proofs.Ytbcjhmdkpkmieaa
open Go.RowKit
open Go
namespace B8
set_option maxRecDepth 20000 in
set_option maxHeartbeats 1000000 in
theorem rvalA_ (X Y D : Int) (t1 : (X == 9218868437227405312) = true) (t2 : (Y == 18442240474082181120) = true) (t3 : (D == 0) = true) (w : World) : Calls Try.prog 47 #[.agg #[.int .u64 X, .int .u64 Y, .int .i64 D]] w fun e w' => e = .returned (.bool true) ∧ Kp w w' := by
  go_enter Try.func47, Try.ntmps47
  go_upto_region 1 with fail
  have sx := H3c.new w (.int .u64 X) (.int .u64 Y) (.int .i64 D) 47
  have kw : Kp w (w.alloc (.cells #[.int .u64 X, .int .u64 Y, .int .i64 D] 47)) := (Kp.refl w).alloc _
  generalize w.alloc (.cells #[.int .u64 X, .int .u64 Y, .int .i64 D] 47) = W at sx kw ⊢
  obtain ⟨x0, x1, x2, x3, x4, x5⟩ := id sx
  refine Fq.wp_region_grow (by kernel_rfl) (by kernel_rfl) (fun ι _ G hG hall => ?_)
  have cc0 : ∀ n, (G n).cell? ⟨w.heap.size, 0, none⟩ = some (.int .u64 X) := fun n => Fq.gkeep (hG n) x0
  have cc1 : ∀ n, (G n).cell? ⟨w.heap.size, 1, none⟩ = some (.int .u64 Y) := fun n => Fq.gkeep (hG n) x1
  have cc2 : ∀ n, (G n).cell? ⟨w.heap.size, 2, none⟩ = some (.int .i64 D) := fun n => Fq.gkeep (hG n) x2
  repeat (go_big_quiet_step (first | (go_at_call 63; exact (rnai13_ _).mono (fun e w' h => ⟨h.1, hall _ (Fq.gtrans (hG _) h.2)⟩))))
  refine wpQuiet_nil ?_
  rintro _ ⟨nq, rfl⟩
  have gq : Kp W (G nq) := hG nq
  clear cc0 cc1 cc2 hall hG
  replace sx := H3c.keep sx gq
  replace kw := Kp.trans kw gq
  clear x0 x1 x2 x3 x4 x5
  obtain ⟨x0, x1, x2, x3, x4, x5⟩ := id sx
  go_wp2
  exact bodyPost_ret (v := .bool true) (by simp [results, Try.results47, go_sem]) rfl ⟨rfl, kw⟩
set_option maxRecDepth 20000 in
set_option maxHeartbeats 1000000 in
theorem rvalB_ (X Y D : Int) (E1 E2 E3 : Bool) (t1 : (X == 9218868437227405312) = E1) (t2 : (Y == 18442240474082181120) = E2) (t3 : (D == 0) = E3) (u : ((E1 && E2) && E3) = false) (hv : ∀ w : World, Calls Try.prog 45 #[.agg #[.int .u64 X, .int .u64 Y]] w fun e w' => e = .returned (.bool false) ∧ Kp w w') (w : World) : Calls Try.prog 47 #[.agg #[.int .u64 X, .int .u64 Y, .int .i64 D]] w fun e w' => e = .returned (.bool false) ∧ Kp w w' := by
  cases E1 <;> cases E2 <;> cases E3
  case true.true.true => cases u
  all_goals (
    clear u
    go_enter Try.func47, Try.ntmps47
    go_upto_region 1 with fail
    have sx := H3c.new w (.int .u64 X) (.int .u64 Y) (.int .i64 D) 47
    have kw : Kp w (w.alloc (.cells #[.int .u64 X, .int .u64 Y, .int .i64 D] 47)) := (Kp.refl w).alloc _
    generalize w.alloc (.cells #[.int .u64 X, .int .u64 Y, .int .i64 D] 47) = W at sx kw ⊢
    obtain ⟨x0, x1, x2, x3, x4, x5⟩ := id sx
    refine Fq.wp_region_grow (by kernel_rfl) (by kernel_rfl) (fun ι _ G hG hall => ?_)
    have cc0 : ∀ n, (G n).cell? ⟨w.heap.size, 0, none⟩ = some (.int .u64 X) := fun n => Fq.gkeep (hG n) x0
    have cc1 : ∀ n, (G n).cell? ⟨w.heap.size, 1, none⟩ = some (.int .u64 Y) := fun n => Fq.gkeep (hG n) x1
    have cc2 : ∀ n, (G n).cell? ⟨w.heap.size, 2, none⟩ = some (.int .i64 D) := fun n => Fq.gkeep (hG n) x2
    repeat (go_big_quiet_step (first | (go_at_call 63; exact (rnai13_ _).mono (fun e w' h => ⟨h.1, hall _ (Fq.gtrans (hG _) h.2)⟩))))
    refine wpQuiet_nil ?_
    rintro _ ⟨nq, rfl⟩
    have gq : Kp W (G nq) := hG nq
    clear cc0 cc1 cc2 hall hG
    replace sx := H3c.keep sx gq
    replace kw := Kp.trans kw gq
    clear x0 x1 x2 x3 x4 x5
    obtain ⟨x0, x1, x2, x3, x4, x5⟩ := id sx
    go_wp2_with (first | (go_at_call 45; refine (hv _).mono ?_; rintro e w1 ⟨rfl, g1⟩; replace sx := H3c.keep sx g1; replace kw := Kp.trans kw g1; clear x0 x1 x2 x3 x4 x5; obtain ⟨x0, x1, x2, x3, x4, x5⟩ := id sx))
    exact bodyPost_ret (v := .bool false) (by simp [results, Try.results47, go_sem]) rfl ⟨rfl, kw⟩)
set_option maxRecDepth 20000 in
set_option maxHeartbeats 1000000 in
theorem rvalC_ (X Y D : Int) (E1 E2 E3 : Bool) (t1 : (X == 9218868437227405312) = E1) (t2 : (Y == 18442240474082181120) = E2) (t3 : (D == 0) = E3) (u : ((E1 && E2) && E3) = false) (hv : ∀ w : World, Calls Try.prog 45 #[.agg #[.int .u64 X, .int .u64 Y]] w fun e w' => e = .returned (.bool true) ∧ Kp w w') (t4 : (D == 4) = true) (w : World) : Calls Try.prog 47 #[.agg #[.int .u64 X, .int .u64 Y, .int .i64 D]] w fun e w' => e = .returned (.bool true) ∧ Kp w w' := by
  cases E1 <;> cases E2 <;> cases E3
  case true.true.true => cases u
  all_goals (
    clear u
    go_enter Try.func47, Try.ntmps47
    go_upto_region 1 with fail
    have sx := H3c.new w (.int .u64 X) (.int .u64 Y) (.int .i64 D) 47
    have kw : Kp w (w.alloc (.cells #[.int .u64 X, .int .u64 Y, .int .i64 D] 47)) := (Kp.refl w).alloc _
    generalize w.alloc (.cells #[.int .u64 X, .int .u64 Y, .int .i64 D] 47) = W at sx kw ⊢
    obtain ⟨x0, x1, x2, x3, x4, x5⟩ := id sx
    refine Fq.wp_region_grow (by kernel_rfl) (by kernel_rfl) (fun ι _ G hG hall => ?_)
    have cc0 : ∀ n, (G n).cell? ⟨w.heap.size, 0, none⟩ = some (.int .u64 X) := fun n => Fq.gkeep (hG n) x0
    have cc1 : ∀ n, (G n).cell? ⟨w.heap.size, 1, none⟩ = some (.int .u64 Y) := fun n => Fq.gkeep (hG n) x1
    have cc2 : ∀ n, (G n).cell? ⟨w.heap.size, 2, none⟩ = some (.int .i64 D) := fun n => Fq.gkeep (hG n) x2
    repeat (go_big_quiet_step (first | (go_at_call 63; exact (rnai13_ _).mono (fun e w' h => ⟨h.1, hall _ (Fq.gtrans (hG _) h.2)⟩))))
    refine wpQuiet_nil ?_
    rintro _ ⟨nq, rfl⟩
    have gq : Kp W (G nq) := hG nq
    clear cc0 cc1 cc2 hall hG
    replace sx := H3c.keep sx gq
    replace kw := Kp.trans kw gq
    clear x0 x1 x2 x3 x4 x5
    obtain ⟨x0, x1, x2, x3, x4, x5⟩ := id sx
    go_wp2_with (first | (go_at_call 45; refine (hv _).mono ?_; rintro e w1 ⟨rfl, g1⟩; replace sx := H3c.keep sx g1; replace kw := Kp.trans kw g1; clear x0 x1 x2 x3 x4 x5; obtain ⟨x0, x1, x2, x3, x4, x5⟩ := id sx))
    exact bodyPost_ret (v := .bool true) (by simp [results, Try.results47, go_sem]) rfl ⟨rfl, kw⟩)
set_option maxRecDepth 20000 in
set_option maxHeartbeats 1000000 in
theorem rvalD_ (X Y D : Int) (t1 : (X == 9218868437227405312) = true) (t2 : (Y == 18442240474082181120) = true) (t3 : (D == 0) = false) (hv : ∀ w : World, Calls Try.prog 45 #[.agg #[.int .u64 X, .int .u64 Y]] w fun e w' => e = .returned (.bool true) ∧ Kp w w') (t4 : (D == 4) = false) (w : World) : Calls Try.prog 47 #[.agg #[.int .u64 X, .int .u64 Y, .int .i64 D]] w fun e w' => e = .returned (.bool false) ∧ Kp w w' := by
  go_enter Try.func47, Try.ntmps47
  go_upto_region 1 with fail
  have sx := H3c.new w (.int .u64 X) (.int .u64 Y) (.int .i64 D) 47
  have kw : Kp w (w.alloc (.cells #[.int .u64 X, .int .u64 Y, .int .i64 D] 47)) := (Kp.refl w).alloc _
  generalize w.alloc (.cells #[.int .u64 X, .int .u64 Y, .int .i64 D] 47) = W at sx kw ⊢
  obtain ⟨x0, x1, x2, x3, x4, x5⟩ := id sx
  refine Fq.wp_region_grow (by kernel_rfl) (by kernel_rfl) (fun ι _ G hG hall => ?_)
  have cc0 : ∀ n, (G n).cell? ⟨w.heap.size, 0, none⟩ = some (.int .u64 X) := fun n => Fq.gkeep (hG n) x0
  have cc1 : ∀ n, (G n).cell? ⟨w.heap.size, 1, none⟩ = some (.int .u64 Y) := fun n => Fq.gkeep (hG n) x1
  have cc2 : ∀ n, (G n).cell? ⟨w.heap.size, 2, none⟩ = some (.int .i64 D) := fun n => Fq.gkeep (hG n) x2
  repeat (go_big_quiet_step (first | (go_at_call 63; exact (rnai13_ _).mono (fun e w' h => ⟨h.1, hall _ (Fq.gtrans (hG _) h.2)⟩))))
  refine wpQuiet_nil ?_
  rintro _ ⟨nq, rfl⟩
  have gq : Kp W (G nq) := hG nq
  clear cc0 cc1 cc2 hall hG
  replace sx := H3c.keep sx gq
  replace kw := Kp.trans kw gq
  clear x0 x1 x2 x3 x4 x5
  obtain ⟨x0, x1, x2, x3, x4, x5⟩ := id sx
  go_upto_region 7 with (first | (go_at_call 45; refine (hv _).mono ?_; rintro e w1 ⟨rfl, g1⟩; replace sx := H3c.keep sx g1; replace kw := Kp.trans kw g1; clear x0 x1 x2 x3 x4 x5; obtain ⟨x0, x1, x2, x3, x4, x5⟩ := id sx))
  refine Fq.wp_region_grow (by kernel_rfl) (by kernel_rfl) (fun ι _ G hG hall => ?_)
  have cc0 : ∀ n, (G n).cell? ⟨w.heap.size, 0, none⟩ = some (.int .u64 X) := fun n => Fq.gkeep (hG n) x0
  have cc1 : ∀ n, (G n).cell? ⟨w.heap.size, 1, none⟩ = some (.int .u64 Y) := fun n => Fq.gkeep (hG n) x1
  have cc2 : ∀ n, (G n).cell? ⟨w.heap.size, 2, none⟩ = some (.int .i64 D) := fun n => Fq.gkeep (hG n) x2
  repeat (go_big_quiet_step (first | (go_at_call 60; exact (rempty9_ _).mono (fun e w' h => ⟨h.1, hall _ (Fq.gtrans (hG _) h.2)⟩))))
  refine wpQuiet_nil ?_
  rintro _ ⟨nq, rfl⟩
  have gq : Kp w1 (G nq) := hG nq
  clear cc0 cc1 cc2 hall hG
  replace sx := H3c.keep sx gq
  replace kw := Kp.trans kw gq
  clear x0 x1 x2 x3 x4 x5
  obtain ⟨x0, x1, x2, x3, x4, x5⟩ := id sx
  go_wp2
  exact bodyPost_ret (v := .bool false) (by simp [results, Try.results47, go_sem]) rfl ⟨rfl, kw⟩
set_option maxRecDepth 20000 in
set_option maxHeartbeats 2000000 in
theorem rvalE_ (X Y D : Int) (E1 E2 E3 : Bool) (t1 : (X == 9218868437227405312) = E1) (t2 : (Y == 18442240474082181120) = E2) (t3 : (D == 0) = E3) (u : (E1 && E2) = false) (hv : ∀ w : World, Calls Try.prog 45 #[.agg #[.int .u64 X, .int .u64 Y]] w fun e w' => e = .returned (.bool true) ∧ Kp w w') (t4 : (D == 4) = false) (F8 F12 F16 i1 i2 : Bool) (t8 : (D == 8) = F8) (t12 : (D == 12) = F12) (t16 : (D == 16) = F16) (x1 : (F8 && F12) = false) (x2 : (F8 && F16) = false) (x3 : (F12 && F16) = false) (h1 : ∀ w : World, Calls Try.prog 64 #[.int .u64 X] w fun e w' => e = .returned (.bool i1) ∧ w' = w) (h2 : ∀ w : World, Calls Try.prog 64 #[.int .u64 Y] w fun e w' => e = .returned (.bool i2) ∧ w' = w) (w : World) : Calls Try.prog 47 #[.agg #[.int .u64 X, .int .u64 Y, .int .i64 D]] w fun e w' => e = .returned (.bool (F8 || F12 || (F16 && !(i1 || i2)))) ∧ Kp w w' := by
  have u' : ((E1 && E2) && E3) = false := by rw [u]; rfl
  cases E1 <;> cases E2
  case true.true => cases u
  all_goals (
    clear u
    go_enter Try.func47, Try.ntmps47
    go_upto_region 1 with fail
    have sx := H3c.new w (.int .u64 X) (.int .u64 Y) (.int .i64 D) 47
    have kw : Kp w (w.alloc (.cells #[.int .u64 X, .int .u64 Y, .int .i64 D] 47)) := (Kp.refl w).alloc _
    generalize w.alloc (.cells #[.int .u64 X, .int .u64 Y, .int .i64 D] 47) = W at sx kw ⊢
    obtain ⟨x0, x1, x2, x3, x4, x5⟩ := id sx
    refine Fq.wp_region_grow (by kernel_rfl) (by kernel_rfl) (fun ι _ G hG hall => ?_)
    have cc0 : ∀ n, (G n).cell? ⟨w.heap.size, 0, none⟩ = some (.int .u64 X) := fun n => Fq.gkeep (hG n) x0
    have cc1 : ∀ n, (G n).cell? ⟨w.heap.size, 1, none⟩ = some (.int .u64 Y) := fun n => Fq.gkeep (hG n) x1
    have cc2 : ∀ n, (G n).cell? ⟨w.heap.size, 2, none⟩ = some (.int .i64 D) := fun n => Fq.gkeep (hG n) x2
    repeat (go_big_quiet_step (first | (go_at_call 63; exact (rnai13_ _).mono (fun e w' h => ⟨h.1, hall _ (Fq.gtrans (hG _) h.2)⟩))))
    refine wpQuiet_nil ?_
    rintro _ ⟨nq, rfl⟩
    have gq : Kp W (G nq) := hG nq
    clear cc0 cc1 cc2 hall hG
    replace sx := H3c.keep sx gq
    replace kw := Kp.trans kw gq
    clear x0 x1 x2 x3 x4 x5
    obtain ⟨x0, x1, x2, x3, x4, x5⟩ := id sx
    go_upto_region 7 with (first | (go_at_call 45; refine (hv _).mono ?_; rintro e w1 ⟨rfl, g1⟩; replace sx := H3c.keep sx g1; replace kw := Kp.trans kw g1; clear x0 x1 x2 x3 x4 x5; obtain ⟨x0, x1, x2, x3, x4, x5⟩ := id sx))
    refine Fq.wp_region_grow (by kernel_rfl) (by kernel_rfl) (fun ι _ G hG hall => ?_)
    have cc0 : ∀ n, (G n).cell? ⟨w.heap.size, 0, none⟩ = some (.int .u64 X) := fun n => Fq.gkeep (hG n) x0
    have cc1 : ∀ n, (G n).cell? ⟨w.heap.size, 1, none⟩ = some (.int .u64 Y) := fun n => Fq.gkeep (hG n) x1
    have cc2 : ∀ n, (G n).cell? ⟨w.heap.size, 2, none⟩ = some (.int .i64 D) := fun n => Fq.gkeep (hG n) x2
    repeat (go_big_quiet_step (first | (go_at_call 60; exact (rempty9_ _).mono (fun e w' h => ⟨h.1, hall _ (Fq.gtrans (hG _) h.2)⟩))))
    refine wpQuiet_nil ?_
    rintro _ ⟨nq, rfl⟩
    have gq : Kp w1 (G nq) := hG nq
    clear cc0 cc1 cc2 hall hG
    replace sx := H3c.keep sx gq
    replace kw := Kp.trans kw gq
    clear x0 x1 x2 x3 x4 x5
    obtain ⟨x0, x1, x2, x3, x4, x5⟩ := id sx
    cases i1 <;> cases F8 <;> cases F12 <;> cases F16
    all_goals first | exact absurd x1 (by decide) | exact absurd x2 (by decide) | exact absurd x3 (by decide) | (
      clear x1 x2 x3
      go_wp2_with (first | (go_at_call_of 64 (Value.int .u64 X); refine (h1 _).mono ?_; rintro e wi ⟨rfl, rfl⟩) | (go_at_call_of 64 (Value.int .u64 Y); refine (h2 _).mono ?_; rintro e wi ⟨rfl, rfl⟩))
      exact bodyPost_ret (v := .bool _) (by simp [results, Try.results47, go_sem]) rfl ⟨rfl, kw⟩))
end B8
end Go.Proofs.Ytbcjhmdkpkmieaa
