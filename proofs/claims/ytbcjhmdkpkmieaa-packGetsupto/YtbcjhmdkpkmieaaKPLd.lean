import Derived.Test.YtbcjhmdkpkmieaaKPKx
import Derived.Test.YtbcjhmdkpkmieaaKPKz
import Derived.Test.YtbcjhmdkpkmieaaKPLc
namespace Go.Proofs.Ytbcjhmdkpkmieaa
open Go.RowKit
open Go
namespace B8
set_option maxRecDepth 20000 in
set_option maxHeartbeats 4000000 in
theorem getsA_ (p : Option Addr) (c N : Nat) (xs zs : List Int) (XI YI PI_ QI : Int) (X Y P Q : Nat) (E E2 D : Int) (w : World)
    (HR : ∀ W : World, Kp w W → Calls Try.prog 21 #[.slice p N c] W fun e w' => e = .returned (.tuple #[.agg #[.int .u64 XI, .int .u64 YI], .int .i64 E]) ∧ Kp W w')
    (HRD : ∀ W : World, Kp w W → Calls Try.prog 22 #[.slice p N c] W fun e w' => e = .returned (.tuple #[.agg #[.int .u64 PI_, .int .u64 QI, .int .i64 D], .int .i64 E2]) ∧ Kp W w')
    (HM : ∀ W : World, Kp w W → Calls Try.prog 23 #[.slice p N c] W fun e w' => ∃ g d, e = .returned (.tuple #[.slice (some ⟨g, 0, none⟩) N d, .slice (some ⟨g, 0, none⟩) (N + 40) d]) ∧ Own w' W.heap.size (.slice (some ⟨g, 0, none⟩) (N + 40) d) zs ∧ N + 40 ≤ d ∧ Kp W w')
    (HA : ∀ (g d : Nat) (W : World) (base : Nat), Own W base (.slice (some ⟨g, 0, none⟩) (N + 40) d) zs → Arr W (some ⟨g, 0, none⟩) zs ∧ Arr W (some ⟨g, 0, none⟩) xs)
    (HG : ∀ (g d : Nat) (W : World), N ≤ d → Arr W (some ⟨g, 0, none⟩) xs → Calls Try.prog 24 #[.slice (some ⟨g, 0, none⟩) N d] W fun e w' => e = .returned (.tuple #[.agg #[.float .f64 X, .float .f64 Y], .int .i64 E]) ∧ Kp W w')
    (HGD : ∀ (g d : Nat) (W : World), N ≤ d → Arr W (some ⟨g, 0, none⟩) xs → Calls Try.prog 27 #[.slice (some ⟨g, 0, none⟩) N d] W fun e w' => e = .returned (.tuple #[.agg #[.float .f64 P, .float .f64 Q, .int .i64 D], .int .i64 E2]) ∧ Kp W w')
    (HL : ∀ (g d : Nat) (W : World), Kp w W → Arr W (some ⟨g, 0, none⟩) zs → N + 40 ≤ d → Calls Try.prog 26 #[.slice p N c, .slice (some ⟨g, 0, none⟩) (N + 40) d] W fun e w' => e = .returned (.bool true) ∧ Kp W w')
    (ho : ∀ W : World, Calls Try.prog 25 #[.agg #[.float .f64 X, .float .f64 Y]] W fun e w' => e = .returned (.agg #[.int .u64 XI, .int .u64 YI]) ∧ Kp W w') (hod : ∀ W : World, Calls Try.prog 28 #[.agg #[.float .f64 P, .float .f64 Q, .int .i64 D]] W fun e w' => e = .returned (.agg #[.int .u64 PI_, .int .u64 QI, .int .i64 D]) ∧ Kp W w') : Calls Try.prog 6 #[.slice p N c] w fun e w' => e = .returned (.bool true) ∧ Kp w w' := by
  go_enter Try.func6, Try.ntmps6
  go_upto_region 5 with (first | (go_at_call 21; refine (HR _ (Kp.refl _)).mono ?_; rintro e w1 ⟨rfl, k1⟩) | (go_at_call 22; refine (HRD _ (k1.alloc _)).mono ?_; rintro e w2 ⟨rfl, g2⟩; have k2 := Kp.trans (k1.alloc (.cells #[.int .u64 XI, .int .u64 YI] 42)) g2; have s3 := Fq.H2.keep (Fq.H2.new w1 (.int .u64 XI) (.int .u64 YI) 42) g2) | (go_at_call 23; refine (HM _ (k2.alloc _)).mono ?_; rintro e w3 ⟨g, d, rfl, o3, hd, g3⟩; have k3 := Kp.trans (k2.alloc (.cells #[.int .u64 PI_, .int .u64 QI, .int .i64 D] 47)) g3; have s5 := H3c.keep (H3c.new w2 (.int .u64 PI_) (.int .u64 QI) (.int .i64 D) 47) g3; replace s3 := Fq.H2.keep (Fq.H2.keep s3 ((Kp.refl w2).alloc (.cells #[.int .u64 PI_, .int .u64 QI, .int .i64 D] 47))) g3; obtain ⟨az, ax⟩ := HA g d w3 _ o3) | (go_at_call 24; refine (HG g d _ (Nat.le_trans (Nat.le_add_right _ _) hd) ax).mono ?_; rintro e w4 ⟨rfl, g4⟩; have k4 := Kp.trans k3 g4; replace s3 := Fq.H2.keep s3 g4; replace s5 := H3c.keep s5 g4; replace az := az.grown g4; replace ax := ax.grown g4))
  have s9 := Fq.H2.new w4 (.float .f64 X) (.float .f64 Y) 25
  replace s3 := Fq.H2.keep s3 ((Kp.refl w4).alloc (.cells #[.float .f64 X, .float .f64 Y] 25))
  replace s5 := H3c.keep s5 ((Kp.refl w4).alloc (.cells #[.float .f64 X, .float .f64 Y] 25))
  replace az := az.grown ((Kp.refl w4).alloc (.cells #[.float .f64 X, .float .f64 Y] 25))
  replace ax := ax.grown ((Kp.refl w4).alloc (.cells #[.float .f64 X, .float .f64 Y] 25))
  replace k4 := k4.alloc (.cells #[.float .f64 X, .float .f64 Y] 25)
  generalize w4.alloc (.cells #[.float .f64 X, .float .f64 Y] 25) = W at s9 s3 s5 az ax k4 ⊢
  generalize w4.heap.size = B9 at s9 ⊢
  generalize w1.heap.size = B3 at s3 ⊢
  generalize w2.heap.size = B5 at s5 ⊢
  obtain ⟨x0, x1, x2, x3⟩ := id s9
  obtain ⟨y0, y1, y2, y3⟩ := id s3
  clear o3 HR HRD HM HA HG
  refine Fq.wp_region_grow (by kernel_rfl) (by kernel_rfl) (fun ι _ G hG hall => ?_)
  have cc0 : ∀ n, (G n).cell? ⟨B9, 0, none⟩ = some (.float .f64 X) := fun n => Fq.gkeep (hG n) x0
  have cc1 : ∀ n, (G n).cell? ⟨B9, 1, none⟩ = some (.float .f64 Y) := fun n => Fq.gkeep (hG n) x1
  have cc2 : ∀ n, (G n).cell? ⟨B3, 0, none⟩ = some (.int .u64 XI) := fun n => Fq.gkeep (hG n) y0
  have cc3 : ∀ n, (G n).cell? ⟨B3, 1, none⟩ = some (.int .u64 YI) := fun n => Fq.gkeep (hG n) y1
  repeat (go_big_quiet_step (first | (go_at_call 25; exact (ho _).mono (fun e w' h => ⟨h.1, hall _ (Fq.gtrans (hG _) h.2)⟩)) | (go_at_call 26; exact (HL g d _ (Kp.trans k4 (hG _)) (az.grown (hG _)) hd).mono (fun e w' h => ⟨h.1, hall _ (Fq.gtrans (hG _) h.2)⟩))))
  refine wpQuiet_nil ?_
  rintro _ ⟨nq, rfl⟩
  have gq : Kp W (G nq) := hG nq
  clear cc0 cc1 cc2 cc3 hall hG
  replace s5 := H3c.keep s5 gq
  replace az := az.grown gq
  replace ax := ax.grown gq
  replace k4 := Kp.trans k4 gq
  clear x0 x1 x2 x3 y0 y1 y2 y3 s9 s3
  go_upto_region 8 with (first | (go_at_call 27; refine (HGD g d _ (Nat.le_trans (Nat.le_add_right _ _) hd) ax).mono ?_; rintro e w5 ⟨rfl, g5⟩; have k5 := Kp.trans k4 g5; replace s5 := H3c.keep s5 g5; replace az := az.grown g5))
  have s11 := H3c.new w5 (.float .f64 P) (.float .f64 Q) (.int .i64 D) 31
  replace s5 := H3c.keep s5 ((Kp.refl w5).alloc (.cells #[.float .f64 P, .float .f64 Q, .int .i64 D] 31))
  replace az := az.grown ((Kp.refl w5).alloc (.cells #[.float .f64 P, .float .f64 Q, .int .i64 D] 31))
  replace k5 := k5.alloc (.cells #[.float .f64 P, .float .f64 Q, .int .i64 D] 31)
  generalize w5.alloc (.cells #[.float .f64 P, .float .f64 Q, .int .i64 D] 31) = W5 at s11 s5 az k5 ⊢
  generalize w5.heap.size = B11 at s11 ⊢
  obtain ⟨x0, x1, x2, x3, x4, x5⟩ := id s11
  obtain ⟨y0, y1, y2, y3, y4, y5⟩ := id s5
  refine Fq.wp_region_grow (by kernel_rfl) (by kernel_rfl) (fun ι _ G hG hall => ?_)
  have cc0 : ∀ n, (G n).cell? ⟨B11, 0, none⟩ = some (.float .f64 P) := fun n => Fq.gkeep (hG n) x0
  have cc1 : ∀ n, (G n).cell? ⟨B11, 1, none⟩ = some (.float .f64 Q) := fun n => Fq.gkeep (hG n) x1
  have cc2 : ∀ n, (G n).cell? ⟨B11, 2, none⟩ = some (.int .i64 D) := fun n => Fq.gkeep (hG n) x2
  have cc3 : ∀ n, (G n).cell? ⟨B5, 0, none⟩ = some (.int .u64 PI_) := fun n => Fq.gkeep (hG n) y0
  have cc4 : ∀ n, (G n).cell? ⟨B5, 1, none⟩ = some (.int .u64 QI) := fun n => Fq.gkeep (hG n) y1
  have cc5 : ∀ n, (G n).cell? ⟨B5, 2, none⟩ = some (.int .i64 D) := fun n => Fq.gkeep (hG n) y2
  repeat (go_big_quiet_step (first | (go_at_call 28; exact (hod _).mono (fun e w' h => ⟨h.1, hall _ (Fq.gtrans (hG _) h.2)⟩)) | (go_at_call 26; exact (HL g d _ (Kp.trans k5 (hG _)) (az.grown (hG _)) hd).mono (fun e w' h => ⟨h.1, hall _ (Fq.gtrans (hG _) h.2)⟩))))
  refine wpQuiet_nil ?_
  rintro _ ⟨nq, rfl⟩
  have gq : Kp W5 (G nq) := hG nq
  clear cc0 cc1 cc2 cc3 cc4 cc5 hall hG
  replace k5 := Kp.trans k5 gq
  go_wp2
  exact bodyPost_ret (v := .bool true) (by simp [results, Try.results6, go_sem]) rfl ⟨rfl, k5⟩
end B8
end Go.Proofs.Ytbcjhmdkpkmieaa
