import Derived.Test.YtipedmnipolmeaaKXRb
namespace Go.Proofs.Ytipedmnipolmeaa
open Go.RowKit
open Go
namespace X7
set_option linter.unusedVariables false
theorem checkLine_ (V : Int) (i : Nat) (pc : Option Addr) (lc cc b off lk ck : Nat) (x0 x1 x2 x3 x4 : Int) (hV : 0 ≤ V ∧ V ≤ 32) (hi : i < lk) (hk : lk ≤ 1024) (hc : lc ≤ 256) (w : World) (e0 : w.cell? ⟨b, off + i * 5, none⟩ = some (.int .i64 x0)) (e1 : w.cell? ⟨b, off + i * 5 + 1, none⟩ = some (.int .i64 x1)) (e2 : w.cell? ⟨b, off + i * 5 + 2, none⟩ = some (.int .i64 x2)) (e3 : w.cell? ⟨b, off + i * 5 + 3, none⟩ = some (.int .i64 x3)) (e4 : w.cell? ⟨b, off + i * 5 + 4, none⟩ = some (.int .i64 x4)) : Calls Try.prog 23 #[.agg #[.int .i64 V, .slice pc lc cc, .slice (some ⟨b, off, none⟩) lk ck], .int .i64 (i : Int)] w fun e w' => e = .returned (.int .i64 (lnE (V + i - 1) lc x0 x1 x2 x3 x4)) ∧ Kp w w' := by
  by_cases hx : 1 ≤ x0 ∧ x0 ≤ 21
  · exact checkLineB_ V i pc lc cc b off lk ck x0 x1 x2 x3 x4 hx hV hi hk hc w e0 e1 e2 e3 e4
  · rw [lnE_op _ _ _ _ _ _ _ hx]
    exact checkLineX_ V i pc lc cc b off lk ck x0 x1 x2 x3 x4 hx hV hi hk hc w e0 e1 e2 e3 e4
set_option maxRecDepth 20000 in
set_option maxHeartbeats 4000000 in
theorem pcheckA_ (V : Int) (pc pk : Option Addr) (cc ck : Nat) (ps : List (Nat × Nat)) (L : List I5) (c1 : ¬ (0 ≤ V ∧ V ≤ 32)) (w : World) (hx : AG FLV w pc ps) (hy : AI w pk L) (hw : Wq ps) (lx : ps.length ≤ 1048576) (ly : L.length ≤ 1048576) :
    Calls Try.prog 6 #[.agg #[.int .i64 V, .slice pc ps.length cc, .slice pk L.length ck]] w fun e w' => e = .returned (.tuple #[.int .i64 ((0 : Int), (160 : Int)).1, .int .i64 ((0 : Int), (160 : Int)).2]) ∧ Kp w w' := by
  have h1 := fun W => hold_ 0 32 V W
  rw [show (decide (0 ≤ V) && decide (V ≤ 32)) = false from by rw [Bool.and_eq_false_iff, decide_eq_false_iff_not, decide_eq_false_iff_not]; omega] at h1
  generalize ps.length = N
  generalize L.length = M
  have z0 : (w.alloc (.cells #[.int .i64 V, .slice pc N cc, .slice pk M ck] 32)).cell? ⟨w.heap.size, 0, none⟩ = some (.int .i64 V) := by simp [go_sem]
  have z1 : (w.alloc (.cells #[.int .i64 V, .slice pc N cc, .slice pk M ck] 32)).cell? ⟨w.heap.size, 1, none⟩ = some (.slice pc N cc) := by simp [go_sem]
  have z2 : (w.alloc (.cells #[.int .i64 V, .slice pc N cc, .slice pk M ck] 32)).cell? ⟨w.heap.size, 2, none⟩ = some (.slice pk M ck) := by simp [go_sem]
  have kw : Kp w (w.alloc (.cells #[.int .i64 V, .slice pc N cc, .slice pk M ck] 32)) := (Kp.refl w).alloc _
  clear c1 lx ly hx hy hw
  go_enter Try.func6, Try.ntmps6
  go_upto_region 1 with fail
  refine Fq.wp_region_grow (by kernel_rfl) (by kernel_rfl) (fun ι _ G hG hall => ?_)
  have cc0 : ∀ n, (G n).cell? ⟨w.heap.size, 0, none⟩ = some (.int .i64 V) := fun n => Fq.gkeep (hG n) z0
  have cc1 : ∀ n, (G n).cell? ⟨w.heap.size, 1, none⟩ = some (.slice pc N cc) := fun n => Fq.gkeep (hG n) z1
  have cc2 : ∀ n, (G n).cell? ⟨w.heap.size, 2, none⟩ = some (.slice pk M ck) := fun n => Fq.gkeep (hG n) z2
  repeat (go_big_quiet_step (first | (go_at_call 18; exact (varsBounds_ _).mono (fun e w' h => ⟨h.1, hall _ (Fq.gtrans (hG _) h.2)⟩)) | (go_at_call 19; exact (h1 _).mono (fun e w' h => ⟨h.1, hall _ (Fq.gtrans (hG _) h.2)⟩))))
  refine wpQuiet_nil ?_
  rintro _ ⟨nq, rfl⟩
  have gq : Kp (w.alloc (.cells #[.int .i64 V, .slice pc N cc, .slice pk M ck] 32)) (G nq) := hG nq
  clear cc0 cc1 cc2 hall hG
  go_wp2
  exact bodyPost_ret (v := .tuple #[.int .i64 0, .int .i64 160]) (by simp [results, Try.results6, go_sem]) rfl ⟨rfl, kw.trans gq⟩
set_option maxRecDepth 20000 in
set_option maxHeartbeats 4000000 in
theorem pcheckB_ (V : Int) (pc pk : Option Addr) (cc ck : Nat) (ps : List (Nat × Nat)) (L : List I5) (c1 : 0 ≤ V ∧ V ≤ 32) (c3 : ps.length ≤ 256) (c4 : allV ps = false) (w : World) (hx : AG FLV w pc ps) (hy : AI w pk L) (hw : Wq ps) (lx : ps.length ≤ 1048576) (ly : L.length ≤ 1048576) :
    Calls Try.prog 6 #[.agg #[.int .i64 V, .slice pc ps.length cc, .slice pk L.length ck]] w fun e w' => e = .returned (.tuple #[.int .i64 ((0 : Int), (161 : Int)).1, .int .i64 ((0 : Int), (161 : Int)).2]) ∧ Kp w w' := by
  have h1 := fun W => hold_ 0 32 V W
  rw [show (decide (0 ≤ V) && decide (V ≤ 32)) = true from by simp [c1]] at h1
  have h2 := fun W => hold_ 0 256 (ps.length : Int) W
  rw [show (decide (0 ≤ (ps.length : Int)) && decide ((ps.length : Int) ≤ 256)) = true from by simp; omega] at h2
  have hav := fun (W : World) (g : Kp w W) => allValid_ pc cc ps W (hx.grown g) hw lx
  rw [c4] at hav
  generalize ps.length = N at h2 hav ⊢
  generalize L.length = M
  have z0 : (w.alloc (.cells #[.int .i64 V, .slice pc N cc, .slice pk M ck] 32)).cell? ⟨w.heap.size, 0, none⟩ = some (.int .i64 V) := by simp [go_sem]
  have z1 : (w.alloc (.cells #[.int .i64 V, .slice pc N cc, .slice pk M ck] 32)).cell? ⟨w.heap.size, 1, none⟩ = some (.slice pc N cc) := by simp [go_sem]
  have z2 : (w.alloc (.cells #[.int .i64 V, .slice pc N cc, .slice pk M ck] 32)).cell? ⟨w.heap.size, 2, none⟩ = some (.slice pk M ck) := by simp [go_sem]
  have kw : Kp w (w.alloc (.cells #[.int .i64 V, .slice pc N cc, .slice pk M ck] 32)) := (Kp.refl w).alloc _
  clear c1 c3 c4 lx ly hx hy hw
  go_enter Try.func6, Try.ntmps6
  go_upto_region 1 with fail
  refine Fq.wp_region_grow (by kernel_rfl) (by kernel_rfl) (fun ι _ G hG hall => ?_)
  have cc0 : ∀ n, (G n).cell? ⟨w.heap.size, 0, none⟩ = some (.int .i64 V) := fun n => Fq.gkeep (hG n) z0
  have cc1 : ∀ n, (G n).cell? ⟨w.heap.size, 1, none⟩ = some (.slice pc N cc) := fun n => Fq.gkeep (hG n) z1
  have cc2 : ∀ n, (G n).cell? ⟨w.heap.size, 2, none⟩ = some (.slice pk M ck) := fun n => Fq.gkeep (hG n) z2
  repeat (go_big_quiet_step (first | (go_at_call 18; exact (varsBounds_ _).mono (fun e w' h => ⟨h.1, hall _ (Fq.gtrans (hG _) h.2)⟩)) | (go_at_call 19; exact (h1 _).mono (fun e w' h => ⟨h.1, hall _ (Fq.gtrans (hG _) h.2)⟩))))
  refine wpQuiet_nil ?_
  rintro _ ⟨nq, rfl⟩
  have gq : Kp (w.alloc (.cells #[.int .i64 V, .slice pc N cc, .slice pk M ck] 32)) (G nq) := hG nq
  clear cc0 cc1 cc2 hall hG
  replace z0 := kkeep gq z0
  replace z1 := kkeep gq z1
  replace z2 := kkeep gq z2
  replace kw := Kp.trans kw gq
  generalize G nq = W2 at z0 z1 z2 kw ⊢
  clear gq
  go_upto_region 3 with fail
  refine Fq.wp_region_grow (by kernel_rfl) (by kernel_rfl) (fun ι _ G hG hall => ?_)
  have cc0 : ∀ n, (G n).cell? ⟨w.heap.size, 0, none⟩ = some (.int .i64 V) := fun n => Fq.gkeep (hG n) z0
  have cc1 : ∀ n, (G n).cell? ⟨w.heap.size, 1, none⟩ = some (.slice pc N cc) := fun n => Fq.gkeep (hG n) z1
  have cc2 : ∀ n, (G n).cell? ⟨w.heap.size, 2, none⟩ = some (.slice pk M ck) := fun n => Fq.gkeep (hG n) z2
  repeat (go_big_quiet_step (first | (go_at_call 20; exact (constsBounds_ _).mono (fun e w' h => ⟨h.1, hall _ (Fq.gtrans (hG _) h.2)⟩)) | (go_at_call 19; exact (h2 _).mono (fun e w' h => ⟨h.1, hall _ (Fq.gtrans (hG _) h.2)⟩)) | (go_at_call 21; exact (hav _ (kw.trans (hG _))).mono (fun e w' h => ⟨h.1, hall _ (Fq.gtrans (hG _) h.2)⟩))))
  refine wpQuiet_nil ?_
  rintro _ ⟨nq, rfl⟩
  have gq : Kp W2 (G nq) := hG nq
  clear cc0 cc1 cc2 hall hG
  go_wp2
  exact bodyPost_ret (v := .tuple #[.int .i64 0, .int .i64 161]) (by simp [results, Try.results6, go_sem]) rfl ⟨rfl, kw.trans gq⟩
set_option maxRecDepth 20000 in
set_option maxHeartbeats 4000000 in
theorem pcheckC_ (V : Int) (pc pk : Option Addr) (cc ck : Nat) (ps : List (Nat × Nat)) (L : List I5) (c1 : 0 ≤ V ∧ V ≤ 32) (c3 : ¬ ps.length ≤ 256) (w : World) (hx : AG FLV w pc ps) (hy : AI w pk L) (hw : Wq ps) (lx : ps.length ≤ 1048576) (ly : L.length ≤ 1048576) :
    Calls Try.prog 6 #[.agg #[.int .i64 V, .slice pc ps.length cc, .slice pk L.length ck]] w fun e w' => e = .returned (.tuple #[.int .i64 ((0 : Int), (161 : Int)).1, .int .i64 ((0 : Int), (161 : Int)).2]) ∧ Kp w w' := by
  have h1 := fun W => hold_ 0 32 V W
  rw [show (decide (0 ≤ V) && decide (V ≤ 32)) = true from by simp [c1]] at h1
  have h2 := fun W => hold_ 0 256 (ps.length : Int) W
  rw [show (decide (0 ≤ (ps.length : Int)) && decide ((ps.length : Int) ≤ 256)) = false from by rw [Bool.and_eq_false_iff, decide_eq_false_iff_not, decide_eq_false_iff_not]; omega] at h2
  generalize ps.length = N at h2 ⊢
  generalize L.length = M
  have z0 : (w.alloc (.cells #[.int .i64 V, .slice pc N cc, .slice pk M ck] 32)).cell? ⟨w.heap.size, 0, none⟩ = some (.int .i64 V) := by simp [go_sem]
  have z1 : (w.alloc (.cells #[.int .i64 V, .slice pc N cc, .slice pk M ck] 32)).cell? ⟨w.heap.size, 1, none⟩ = some (.slice pc N cc) := by simp [go_sem]
  have z2 : (w.alloc (.cells #[.int .i64 V, .slice pc N cc, .slice pk M ck] 32)).cell? ⟨w.heap.size, 2, none⟩ = some (.slice pk M ck) := by simp [go_sem]
  have kw : Kp w (w.alloc (.cells #[.int .i64 V, .slice pc N cc, .slice pk M ck] 32)) := (Kp.refl w).alloc _
  clear c1 c3 lx ly hx hy hw
  go_enter Try.func6, Try.ntmps6
  go_upto_region 1 with fail
  refine Fq.wp_region_grow (by kernel_rfl) (by kernel_rfl) (fun ι _ G hG hall => ?_)
  have cc0 : ∀ n, (G n).cell? ⟨w.heap.size, 0, none⟩ = some (.int .i64 V) := fun n => Fq.gkeep (hG n) z0
  have cc1 : ∀ n, (G n).cell? ⟨w.heap.size, 1, none⟩ = some (.slice pc N cc) := fun n => Fq.gkeep (hG n) z1
  have cc2 : ∀ n, (G n).cell? ⟨w.heap.size, 2, none⟩ = some (.slice pk M ck) := fun n => Fq.gkeep (hG n) z2
  repeat (go_big_quiet_step (first | (go_at_call 18; exact (varsBounds_ _).mono (fun e w' h => ⟨h.1, hall _ (Fq.gtrans (hG _) h.2)⟩)) | (go_at_call 19; exact (h1 _).mono (fun e w' h => ⟨h.1, hall _ (Fq.gtrans (hG _) h.2)⟩))))
  refine wpQuiet_nil ?_
  rintro _ ⟨nq, rfl⟩
  have gq : Kp (w.alloc (.cells #[.int .i64 V, .slice pc N cc, .slice pk M ck] 32)) (G nq) := hG nq
  clear cc0 cc1 cc2 hall hG
  replace z0 := kkeep gq z0
  replace z1 := kkeep gq z1
  replace z2 := kkeep gq z2
  replace kw := Kp.trans kw gq
  generalize G nq = W2 at z0 z1 z2 kw ⊢
  clear gq
  go_upto_region 3 with fail
  refine Fq.wp_region_grow (by kernel_rfl) (by kernel_rfl) (fun ι _ G hG hall => ?_)
  have cc0 : ∀ n, (G n).cell? ⟨w.heap.size, 0, none⟩ = some (.int .i64 V) := fun n => Fq.gkeep (hG n) z0
  have cc1 : ∀ n, (G n).cell? ⟨w.heap.size, 1, none⟩ = some (.slice pc N cc) := fun n => Fq.gkeep (hG n) z1
  have cc2 : ∀ n, (G n).cell? ⟨w.heap.size, 2, none⟩ = some (.slice pk M ck) := fun n => Fq.gkeep (hG n) z2
  repeat (go_big_quiet_step (first | (go_at_call 20; exact (constsBounds_ _).mono (fun e w' h => ⟨h.1, hall _ (Fq.gtrans (hG _) h.2)⟩)) | (go_at_call 19; exact (h2 _).mono (fun e w' h => ⟨h.1, hall _ (Fq.gtrans (hG _) h.2)⟩))))
  refine wpQuiet_nil ?_
  rintro _ ⟨nq, rfl⟩
  have gq : Kp W2 (G nq) := hG nq
  clear cc0 cc1 cc2 hall hG
  go_wp2
  exact bodyPost_ret (v := .tuple #[.int .i64 0, .int .i64 161]) (by simp [results, Try.results6, go_sem]) rfl ⟨rfl, kw.trans gq⟩
set_option maxRecDepth 20000 in
set_option maxHeartbeats 4000000 in
theorem pcheckD_ (V : Int) (pc pk : Option Addr) (cc ck : Nat) (ps : List (Nat × Nat)) (L : List I5) (c1 : 0 ≤ V ∧ V ≤ 32) (c3 : ps.length ≤ 256) (c4 : allV ps = true) (c5 : ¬ (1 ≤ L.length ∧ L.length ≤ 1024)) (w : World) (hx : AG FLV w pc ps) (hy : AI w pk L) (hw : Wq ps) (lx : ps.length ≤ 1048576) (ly : L.length ≤ 1048576) :
    Calls Try.prog 6 #[.agg #[.int .i64 V, .slice pc ps.length cc, .slice pk L.length ck]] w fun e w' => e = .returned (.tuple #[.int .i64 ((0 : Int), (162 : Int)).1, .int .i64 ((0 : Int), (162 : Int)).2]) ∧ Kp w w' := by
  have h1 := fun W => hold_ 0 32 V W
  rw [show (decide (0 ≤ V) && decide (V ≤ 32)) = true from by simp [c1]] at h1
  have h2 := fun W => hold_ 0 256 (ps.length : Int) W
  rw [show (decide (0 ≤ (ps.length : Int)) && decide ((ps.length : Int) ≤ 256)) = true from by simp; omega] at h2
  have hav := fun (W : World) (g : Kp w W) => allValid_ pc cc ps W (hx.grown g) hw lx
  rw [c4] at hav
  have h3 := fun W => hold_ 1 1024 (L.length : Int) W
  rw [show (decide (1 ≤ (L.length : Int)) && decide ((L.length : Int) ≤ 1024)) = false from by rw [Bool.and_eq_false_iff, decide_eq_false_iff_not, decide_eq_false_iff_not]; omega] at h3
  generalize ps.length = N at h2 hav ⊢
  generalize L.length = M at h3 ⊢
  have z0 : (w.alloc (.cells #[.int .i64 V, .slice pc N cc, .slice pk M ck] 32)).cell? ⟨w.heap.size, 0, none⟩ = some (.int .i64 V) := by simp [go_sem]
  have z1 : (w.alloc (.cells #[.int .i64 V, .slice pc N cc, .slice pk M ck] 32)).cell? ⟨w.heap.size, 1, none⟩ = some (.slice pc N cc) := by simp [go_sem]
  have z2 : (w.alloc (.cells #[.int .i64 V, .slice pc N cc, .slice pk M ck] 32)).cell? ⟨w.heap.size, 2, none⟩ = some (.slice pk M ck) := by simp [go_sem]
  have kw : Kp w (w.alloc (.cells #[.int .i64 V, .slice pc N cc, .slice pk M ck] 32)) := (Kp.refl w).alloc _
  clear c1 c3 c4 c5 lx ly hx hy hw
  go_enter Try.func6, Try.ntmps6
  go_upto_region 1 with fail
  refine Fq.wp_region_grow (by kernel_rfl) (by kernel_rfl) (fun ι _ G hG hall => ?_)
  have cc0 : ∀ n, (G n).cell? ⟨w.heap.size, 0, none⟩ = some (.int .i64 V) := fun n => Fq.gkeep (hG n) z0
  have cc1 : ∀ n, (G n).cell? ⟨w.heap.size, 1, none⟩ = some (.slice pc N cc) := fun n => Fq.gkeep (hG n) z1
  have cc2 : ∀ n, (G n).cell? ⟨w.heap.size, 2, none⟩ = some (.slice pk M ck) := fun n => Fq.gkeep (hG n) z2
  repeat (go_big_quiet_step (first | (go_at_call 18; exact (varsBounds_ _).mono (fun e w' h => ⟨h.1, hall _ (Fq.gtrans (hG _) h.2)⟩)) | (go_at_call 19; exact (h1 _).mono (fun e w' h => ⟨h.1, hall _ (Fq.gtrans (hG _) h.2)⟩))))
  refine wpQuiet_nil ?_
  rintro _ ⟨nq, rfl⟩
  have gq : Kp (w.alloc (.cells #[.int .i64 V, .slice pc N cc, .slice pk M ck] 32)) (G nq) := hG nq
  clear cc0 cc1 cc2 hall hG
  replace z0 := kkeep gq z0
  replace z1 := kkeep gq z1
  replace z2 := kkeep gq z2
  replace kw := Kp.trans kw gq
  generalize G nq = W2 at z0 z1 z2 kw ⊢
  clear gq
  go_upto_region 3 with fail
  refine Fq.wp_region_grow (by kernel_rfl) (by kernel_rfl) (fun ι _ G hG hall => ?_)
  have cc0 : ∀ n, (G n).cell? ⟨w.heap.size, 0, none⟩ = some (.int .i64 V) := fun n => Fq.gkeep (hG n) z0
  have cc1 : ∀ n, (G n).cell? ⟨w.heap.size, 1, none⟩ = some (.slice pc N cc) := fun n => Fq.gkeep (hG n) z1
  have cc2 : ∀ n, (G n).cell? ⟨w.heap.size, 2, none⟩ = some (.slice pk M ck) := fun n => Fq.gkeep (hG n) z2
  repeat (go_big_quiet_step (first | (go_at_call 20; exact (constsBounds_ _).mono (fun e w' h => ⟨h.1, hall _ (Fq.gtrans (hG _) h.2)⟩)) | (go_at_call 19; exact (h2 _).mono (fun e w' h => ⟨h.1, hall _ (Fq.gtrans (hG _) h.2)⟩)) | (go_at_call 21; exact (hav _ (kw.trans (hG _))).mono (fun e w' h => ⟨h.1, hall _ (Fq.gtrans (hG _) h.2)⟩))))
  refine wpQuiet_nil ?_
  rintro _ ⟨nq, rfl⟩
  have gq : Kp W2 (G nq) := hG nq
  clear cc0 cc1 cc2 hall hG
  replace z0 := kkeep gq z0
  replace z1 := kkeep gq z1
  replace z2 := kkeep gq z2
  replace kw := Kp.trans kw gq
  generalize G nq = W4 at z0 z1 z2 kw ⊢
  clear gq
  go_upto_region 5 with fail
  refine Fq.wp_region_grow (by kernel_rfl) (by kernel_rfl) (fun ι _ G hG hall => ?_)
  have cc0 : ∀ n, (G n).cell? ⟨w.heap.size, 0, none⟩ = some (.int .i64 V) := fun n => Fq.gkeep (hG n) z0
  have cc1 : ∀ n, (G n).cell? ⟨w.heap.size, 1, none⟩ = some (.slice pc N cc) := fun n => Fq.gkeep (hG n) z1
  have cc2 : ∀ n, (G n).cell? ⟨w.heap.size, 2, none⟩ = some (.slice pk M ck) := fun n => Fq.gkeep (hG n) z2
  repeat (go_big_quiet_step (first | (go_at_call 22; exact (codeBounds_ _).mono (fun e w' h => ⟨h.1, hall _ (Fq.gtrans (hG _) h.2)⟩)) | (go_at_call 19; exact (h3 _).mono (fun e w' h => ⟨h.1, hall _ (Fq.gtrans (hG _) h.2)⟩))))
  refine wpQuiet_nil ?_
  rintro _ ⟨nq, rfl⟩
  have gq : Kp W4 (G nq) := hG nq
  clear cc0 cc1 cc2 hall hG
  go_wp2
  exact bodyPost_ret (v := .tuple #[.int .i64 0, .int .i64 162]) (by simp [results, Try.results6, go_sem]) rfl ⟨rfl, kw.trans gq⟩
set_option maxRecDepth 20000 in
set_option maxHeartbeats 4000000 in
theorem pcheckL_ (V : Int) (pc pk : Option Addr) (cc ck : Nat) (ps : List (Nat × Nat)) (L : List I5) (c1 : 0 ≤ V ∧ V ≤ 32) (c3 : ps.length ≤ 256) (c4 : allV ps = true) (c5 : 1 ≤ L.length ∧ L.length ≤ 1024) (w : World) (hx : AG FLV w pc ps) (hy : AI w pk L) (hw : Wq ps) (lx : ps.length ≤ 1048576) (ly : L.length ≤ 1048576) :
    Calls Try.prog 6 #[.agg #[.int .i64 V, .slice pc ps.length cc, .slice pk L.length ck]] w fun e w' => e = .returned (.tuple #[.int .i64 (scan (lnAt V ps.length L) L.length).1, .int .i64 (scan (lnAt V ps.length L) L.length).2]) ∧ Kp w w' := by
  have h1 := fun W => hold_ 0 32 V W
  rw [show (decide (0 ≤ V) && decide (V ≤ 32)) = true from by simp [c1]] at h1
  have h2 := fun W => hold_ 0 256 (ps.length : Int) W
  rw [show (decide (0 ≤ (ps.length : Int)) && decide ((ps.length : Int) ≤ 256)) = true from by simp; omega] at h2
  have hav := fun (W : World) (g : Kp w W) => allValid_ pc cc ps W (hx.grown g) hw lx
  rw [c4] at hav
  have h3 := fun W => hold_ 1 1024 (L.length : Int) W
  rw [show (decide (1 ≤ (L.length : Int)) && decide ((L.length : Int) ≤ 1024)) = true from by simp; omega] at h3
  obtain ⟨N, hN⟩ : ∃ N, N = ps.length := ⟨_, rfl⟩
  obtain ⟨M, hM⟩ : ∃ M, M = L.length := ⟨_, rfl⟩
  rw [← hN] at h2 hav ⊢
  rw [← hM] at h3 ⊢
  obtain ⟨R, hR⟩ : ∃ R, R = scan (lnAt V N L) M := ⟨_, rfl⟩
  rw [← hR]
  have HX : Hid (AI w pk L ∧ (0 ≤ V ∧ V ≤ 32) ∧ N ≤ 256 ∧ M = L.length ∧ M ≤ 1024 ∧ R = scan (lnAt V N L) M) := ⟨hy, c1, by omega, hM, by omega, hR⟩
  have z0 : (w.alloc (.cells #[.int .i64 V, .slice pc N cc, .slice pk M ck] 32)).cell? ⟨w.heap.size, 0, none⟩ = some (.int .i64 V) := by simp [go_sem]
  have z1 : (w.alloc (.cells #[.int .i64 V, .slice pc N cc, .slice pk M ck] 32)).cell? ⟨w.heap.size, 1, none⟩ = some (.slice pc N cc) := by simp [go_sem]
  have z2 : (w.alloc (.cells #[.int .i64 V, .slice pc N cc, .slice pk M ck] 32)).cell? ⟨w.heap.size, 2, none⟩ = some (.slice pk M ck) := by simp [go_sem]
  have kw : Kp w (w.alloc (.cells #[.int .i64 V, .slice pc N cc, .slice pk M ck] 32)) := (Kp.refl w).alloc _
  have hM9 : M ≤ 1024 := by omega
  clear c1 c3 c4 c5 lx ly hx hy hw hN hM hR
  go_enter Try.func6, Try.ntmps6
  go_upto_region 1 with fail
  refine Fq.wp_region_grow (by kernel_rfl) (by kernel_rfl) (fun ι _ G hG hall => ?_)
  have cc0 : ∀ n, (G n).cell? ⟨w.heap.size, 0, none⟩ = some (.int .i64 V) := fun n => Fq.gkeep (hG n) z0
  have cc1 : ∀ n, (G n).cell? ⟨w.heap.size, 1, none⟩ = some (.slice pc N cc) := fun n => Fq.gkeep (hG n) z1
  have cc2 : ∀ n, (G n).cell? ⟨w.heap.size, 2, none⟩ = some (.slice pk M ck) := fun n => Fq.gkeep (hG n) z2
  repeat (go_big_quiet_step (first | (go_at_call 18; exact (varsBounds_ _).mono (fun e w' h => ⟨h.1, hall _ (Fq.gtrans (hG _) h.2)⟩)) | (go_at_call 19; exact (h1 _).mono (fun e w' h => ⟨h.1, hall _ (Fq.gtrans (hG _) h.2)⟩))))
  refine wpQuiet_nil ?_
  rintro _ ⟨nq, rfl⟩
  have gq : Kp (w.alloc (.cells #[.int .i64 V, .slice pc N cc, .slice pk M ck] 32)) (G nq) := hG nq
  clear cc0 cc1 cc2 hall hG
  replace z0 := kkeep gq z0
  replace z1 := kkeep gq z1
  replace z2 := kkeep gq z2
  replace kw := Kp.trans kw gq
  generalize G nq = W2 at z0 z1 z2 kw ⊢
  clear gq
  go_upto_region 3 with fail
  refine Fq.wp_region_grow (by kernel_rfl) (by kernel_rfl) (fun ι _ G hG hall => ?_)
  have cc0 : ∀ n, (G n).cell? ⟨w.heap.size, 0, none⟩ = some (.int .i64 V) := fun n => Fq.gkeep (hG n) z0
  have cc1 : ∀ n, (G n).cell? ⟨w.heap.size, 1, none⟩ = some (.slice pc N cc) := fun n => Fq.gkeep (hG n) z1
  have cc2 : ∀ n, (G n).cell? ⟨w.heap.size, 2, none⟩ = some (.slice pk M ck) := fun n => Fq.gkeep (hG n) z2
  repeat (go_big_quiet_step (first | (go_at_call 20; exact (constsBounds_ _).mono (fun e w' h => ⟨h.1, hall _ (Fq.gtrans (hG _) h.2)⟩)) | (go_at_call 19; exact (h2 _).mono (fun e w' h => ⟨h.1, hall _ (Fq.gtrans (hG _) h.2)⟩)) | (go_at_call 21; exact (hav _ (kw.trans (hG _))).mono (fun e w' h => ⟨h.1, hall _ (Fq.gtrans (hG _) h.2)⟩))))
  refine wpQuiet_nil ?_
  rintro _ ⟨nq, rfl⟩
  have gq : Kp W2 (G nq) := hG nq
  clear cc0 cc1 cc2 hall hG
  replace z0 := kkeep gq z0
  replace z1 := kkeep gq z1
  replace z2 := kkeep gq z2
  replace kw := Kp.trans kw gq
  generalize G nq = W4 at z0 z1 z2 kw ⊢
  clear gq
  go_upto_region 5 with fail
  refine Fq.wp_region_grow (by kernel_rfl) (by kernel_rfl) (fun ι _ G hG hall => ?_)
  have cc0 : ∀ n, (G n).cell? ⟨w.heap.size, 0, none⟩ = some (.int .i64 V) := fun n => Fq.gkeep (hG n) z0
  have cc1 : ∀ n, (G n).cell? ⟨w.heap.size, 1, none⟩ = some (.slice pc N cc) := fun n => Fq.gkeep (hG n) z1
  have cc2 : ∀ n, (G n).cell? ⟨w.heap.size, 2, none⟩ = some (.slice pk M ck) := fun n => Fq.gkeep (hG n) z2
  repeat (go_big_quiet_step (first | (go_at_call 22; exact (codeBounds_ _).mono (fun e w' h => ⟨h.1, hall _ (Fq.gtrans (hG _) h.2)⟩)) | (go_at_call 19; exact (h3 _).mono (fun e w' h => ⟨h.1, hall _ (Fq.gtrans (hG _) h.2)⟩))))
  refine wpQuiet_nil ?_
  rintro _ ⟨nq, rfl⟩
  have gq : Kp W4 (G nq) := hG nq
  clear cc0 cc1 cc2 hall hG
  replace z0 := kkeep gq z0
  replace z1 := kkeep gq z1
  replace z2 := kkeep gq z2
  replace kw := Kp.trans kw gq
  generalize G nq = W6 at z0 z1 z2 kw ⊢
  clear gq
  clear h1 h2 h3 hav
  go_wp2
  go_loopw [4, 5, 32] (fun s4 s5 s32 wr => ∃ j : Nat, s32 = .int .i64 j ∧ j ≤ M ∧ (∀ k, k < j → lnAt V N L k = 0) ∧ wr.cell? ⟨w.heap.size, 0, none⟩ = some (.int .i64 V) ∧ wr.cell? ⟨w.heap.size, 1, none⟩ = some (.slice pc N cc) ∧ wr.cell? ⟨w.heap.size, 2, none⟩ = some (.slice pk M ck) ∧ Kp w wr) (fun _ _ s32 _ => M - (intOf s32).toNat)
  case atStart => exact ⟨0, rfl, Nat.zero_le _, fun k hk => absurd hk (Nat.not_lt_zero _), z0, z1, z2, kw⟩
  case round =>
    clear z0 z1 z2 kw
    obtain ⟨j, rfl, hj, hall9, z0, z1, z2, hkp⟩ := hrel
    obtain ⟨hy, hV, hN, hM, hM2, hR⟩ := HX.out
    by_cases cj : j < M
    · have HJ : Hid (j < M) := cj
      obtain ⟨b, off, rfl, hc5⟩ := hy.at (k := j) (by omega)
      obtain ⟨e0, e1, e2, e3, e4⟩ := hc5 j (by omega)
      obtain ⟨E, hE⟩ : ∃ E, E = lnAt V N L j := ⟨_, rfl⟩
      have hcl : ∀ W : World, Kp w W → Calls Try.prog 23 #[.agg #[.int .i64 V, .slice pc N cc, .slice (some ⟨b, off, none⟩) M ck], .int .i64 (j : Int)] W fun e w' => e = .returned (.int .i64 E) ∧ Kp W w' := fun W g => by
        rw [hE]; unfold lnAt
        exact checkLine_ V j pc N cc b off M ck _ _ _ _ _ hV cj hM2 hN W (kkeep g e0) (kkeep g e1) (kkeep g e2) (kkeep g e3) (kkeep g e4)
      have HE : Hid (E = lnAt V N L j ∧ ∀ k, k < j → lnAt V N L k = 0) := ⟨hE, hall9⟩
      clear hE hall9 hR hN hy hV hc5 e0 e1 e2 e3 e4 hM hM2
      by_cases cE : E = 0
      · subst cE
        go_wp2_with (first | (go_at_call 23; refine (hcl _ hkp).mono ?_; rintro e w1 ⟨rfl, g1⟩; have hk1 : Kp w w1 := Kp.trans hkp g1; replace z0 := kkeep g1 z0; replace z1 := kkeep g1 z1; replace z2 := kkeep g1 z2))
        have hJ : j < M := HJ.out
        exact ⟨⟨j + 1, by go_num, hJ, fun k hk => by
          by_cases c : k = j
          · subst c; exact HE.out.1.symm
          · exact HE.out.2 k (by omega), z0, z1, z2, hk1⟩, by simp [intOf]; omega⟩
      · have dE : (E == 0) = false := beq_eq_false_iff_ne.2 cE
        have HR : Hid (R = ((j : Int), E)) := by
          show _ = _
          obtain ⟨hy, hV, hN, hM, hM2, hR⟩ := HX.out
          rw [hR, HE.out.1]
          exact scan_bad HE.out.2 (by rw [← HE.out.1]; exact cE) M cj
        go_wp2_with (first | (go_at_call 23; refine (hcl _ hkp).mono ?_; rintro e w1 ⟨rfl, g1⟩; have hk1 : Kp w w1 := Kp.trans hkp g1))
        obtain rfl := HR.out
        exact bodyPost_ret (v := .tuple #[.int .i64 (j : Int), .int .i64 E]) (by simp [results, Try.results6, go_sem]) rfl ⟨rfl, hk1⟩
    · obtain rfl : R = (0, 0) := by rw [hR]; exact scan_ok M (fun k hk => hall9 k (by omega))
      clear hR hN hy hall9 HX hV hM hM2
      go_wp2
      exact bodyPost_ret (v := .tuple #[.int .i64 0, .int .i64 0]) (by simp [results, Try.results6, go_sem]) rfl ⟨rfl, hkp⟩
set_option maxRecDepth 20000 in
set_option maxHeartbeats 4000000 in
theorem pcheck_ (V : Int) (pc pk : Option Addr) (cc ck : Nat) (ps : List (Nat × Nat)) (L : List I5)  (w : World) (hx : AG FLV w pc ps) (hy : AI w pk L) (hw : Wq ps) (lx : ps.length ≤ 1048576) (ly : L.length ≤ 1048576) :
    Calls Try.prog 6 #[.agg #[.int .i64 V, .slice pc ps.length cc, .slice pk L.length ck]] w fun e w' => e = .returned (.tuple #[.int .i64 (chk V ps L).1, .int .i64 (chk V ps L).2]) ∧ Kp w w' := by
  by_cases c1 : 0 ≤ V ∧ V ≤ 32
  case neg => rw [chk_v c1]; exact pcheckA_ V pc pk cc ck ps L c1 w hx hy hw lx ly
  by_cases c3 : ps.length ≤ 256
  case neg => rw [chk_c c1 (fun h => c3 h.1)]; exact pcheckC_ V pc pk cc ck ps L c1 c3 w hx hy hw lx ly
  by_cases c4 : allV ps = true
  case neg => rw [chk_c c1 (fun h => c4 h.2)]; exact pcheckB_ V pc pk cc ck ps L c1 c3 (by simpa using c4) w hx hy hw lx ly
  by_cases c5 : 1 ≤ L.length ∧ L.length ≤ 1024
  case neg => rw [chk_k c1 ⟨c3, c4⟩ c5]; exact pcheckD_ V pc pk cc ck ps L c1 c3 c4 c5 w hx hy hw lx ly
  rw [chk_l c1 ⟨c3, c4⟩ c5]
  exact pcheckL_ V pc pk cc ck ps L c1 c3 c4 c5 w hx hy hw lx ly
end X7
end Go.Proofs.Ytipedmnipolmeaa
