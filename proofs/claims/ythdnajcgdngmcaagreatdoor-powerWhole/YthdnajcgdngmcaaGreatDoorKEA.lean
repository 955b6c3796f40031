import Derived.Test.YthdnajcgdngmcaaGreatDoorKEM
import Derived.Test.YthdnajcgdngmcaaGreatDoorKH2DQ
namespace Go.Proofs.YthdnajcgdngmcaaGreatDoor
open Go.RowKit
namespace Fq
theorem Grown.setCell {W w' : World} (h : Grown W w') {a : Addr} (ha : W.heap.size ≤ a.block) (v : Value) : Grown W (w'.setCell a v) := Below.setCell h ha v
@[go_sem] theorem run_store_float6 (P : Program) (w : World) (a : Addr) (m : Mode) (k : FloatKind) (x : Nat) : (store a (.float k x) m).run P w = stored P w a (.float k x) m := run_store P w a _ m rfl
set_option maxRecDepth 20000 in
set_option maxHeartbeats 400000 in
theorem inf1_ (w : World) : Calls Tryz.prog 8 #[.int .i64 1] w fun e w' => e = .returned (.float .f64 9218868437227405312) ∧ w' = w := by
  have hf : ∀ w : World, (callFunc 40 #[.int .u64 9218868437227405312]).run Tryz.prog w = .ok (.value (.float .f64 9218868437227405312)) w := ff64 9218868437227405312
  go_enter Tryz.func8, Tryz.ntmps8
  go_wp2_with (first | (simp only [hf]))
  exact bodyPost_ret (v := .float .f64 9218868437227405312) (by simp [results, Tryz.results8, go_sem] <;> simp only [*]) rfl ⟨rfl, rfl⟩
set_option maxRecDepth 20000 in
set_option maxHeartbeats 400000 in
theorem infm_ (w : World) : Calls Tryz.prog 8 #[.int .i64 (-1)] w fun e w' => e = .returned (.float .f64 18442240474082181120) ∧ w' = w := by
  have hf : ∀ w : World, (callFunc 40 #[.int .u64 18442240474082181120]).run Tryz.prog w = .ok (.value (.float .f64 18442240474082181120)) w := ff64 18442240474082181120
  go_enter Tryz.func8, Tryz.ntmps8
  go_wp2_with (first | (simp only [hf]))
  exact bodyPost_ret (v := .float .f64 18442240474082181120) (by simp [results, Tryz.results8, go_sem] <;> simp only [*]) rfl ⟨rfl, rfl⟩
set_option maxRecDepth 20000 in
set_option maxHeartbeats 400000 in
theorem plain6_ (x : Nat) (h : x < 18446744073709551616) (w : World) : Calls Tryz.prog 76 #[.float .f64 x] w fun e w' => e = .returned (.float .f64 (pla x)) ∧ w' = w := by
  have t := feq0 x h
  by_cases c : x = 0 ∨ x = 9223372036854775808
  · rw [decide_eq_true c] at t
    have e : pla x = 0 := by unfold pla; split <;> omega
    rw [e]; clear c e h
    go_enter Tryz.func76, Tryz.ntmps76
    go_wp2
    exact bodyPost_ret (v := .float .f64 0) (by simp [results, Tryz.results76, go_sem] <;> simp only [*]) rfl ⟨rfl, rfl⟩
  · rw [decide_eq_false c] at t
    have e : pla x = x := by unfold pla; rw [if_neg (by omega)]
    rw [e]; clear c e h
    go_enter Tryz.func76, Tryz.ntmps76
    go_wp2
    exact bodyPost_ret (v := .float .f64 x) (by simp [results, Tryz.results76, go_sem] <;> simp only [*]) rfl ⟨rfl, rfl⟩
set_option maxRecDepth 20000 in
set_option maxHeartbeats 400000 in
theorem empty6_ (w : World) : Calls Tryz.prog 51 #[] w fun e w' => e = .returned (.agg #[.float .f64 9218868437227405312, .float .f64 18442240474082181120]) ∧ w' = w.alloc (.cells #[.float .f64 9218868437227405312, .float .f64 18442240474082181120] 25) := by
  go_enter Tryz.func51, Tryz.ntmps51
  go_wp2_with (go_at_call 8; (first | refine (inf1_ _).mono ?_ | refine (infm_ _).mono ?_); rintro e w' ⟨rfl, rfl⟩)
  exact bodyPost_ret (v := .agg #[.float .f64 9218868437227405312, .float .f64 18442240474082181120]) (by simp [results, Tryz.results51, go_sem] <;> simp only [*]) rfl ⟨rfl, rfl⟩
set_option maxRecDepth 20000 in
set_option maxHeartbeats 400000 in
theorem entire6_ (w : World) : Calls Tryz.prog 43 #[] w fun e w' => e = .returned (.agg #[.float .f64 18442240474082181120, .float .f64 9218868437227405312]) ∧ w' = w.alloc (.cells #[.float .f64 18442240474082181120, .float .f64 9218868437227405312] 25) := by
  go_enter Tryz.func43, Tryz.ntmps43
  go_wp2_with (go_at_call 8; (first | refine (inf1_ _).mono ?_ | refine (infm_ _).mono ?_); rintro e w' ⟨rfl, rfl⟩)
  exact bodyPost_ret (v := .agg #[.float .f64 18442240474082181120, .float .f64 9218868437227405312]) (by simp [results, Tryz.results43, go_sem] <;> simp only [*]) rfl ⟨rfl, rfl⟩
end Fq
namespace Fq
set_option maxRecDepth 20000 in
set_option maxHeartbeats 1000000 in
theorem read_ (a b : Nat) (ha : a < 18446744073709551616) (hb : b < 18446744073709551616) (w : World) : Calls Tryz.prog 41 #[.agg #[.float .f64 a, .float .f64 b]] w fun e w' => e = .returned (.agg #[.float .f64 (rlo a b), .float .f64 (rhi a b)]) ∧ Grown w w' := by
  have t2 := feqI a ha
  have t3 := feqM b hb
  have hpa := plain6_ a ha
  have hpb := plain6_ b hb
  by_cases h1 : (FloatKind.f64.format.order a b == some Ordering.lt || FloatKind.f64.format.order a b == some Ordering.eq) = true
  · by_cases h2 : a = 9218868437227405312
    · have es : snd a b = false := by simp [snd, h2]
      rw [decide_eq_true h2] at t2
      rw [show rlo a b = 9218868437227405312 from by simp [rlo, es], show rhi a b = 18442240474082181120 from by simp [rhi, es]]
      clear h2 es ha hb
      go_enter Tryz.func41, Tryz.ntmps41
      go_wp2
      go_quiet ((go_at_call 8; first | exact Calls.quiet_of_same (inf1_ _) | exact Calls.quiet_of_same (infm_ _)))
      go_wp2_with (first | (go_at_call 51; refine (empty6_ _).mono ?_; rintro e w' ⟨rfl, rfl⟩))
      exact bodyPost_ret (v := .agg #[.float .f64 9218868437227405312, .float .f64 18442240474082181120]) (by simp [results, Tryz.results41, go_sem] <;> simp only [*]) rfl ⟨rfl, (by repeat (with_reducible (first | assumption | exact Grown.refl _ | apply Grown.drew | apply Grown.alloc | apply gdrewN | (refine Grown.setCell ?_ (by simp <;> omega) _) | (refine gtrans ?_ (by assumption)))))⟩
    · rw [decide_eq_false h2] at t2
      by_cases h3 : b = 18442240474082181120
      · have es : snd a b = false := by simp [snd, h3]
        rw [decide_eq_true h3] at t3
        rw [show rlo a b = 9218868437227405312 from by simp [rlo, es], show rhi a b = 18442240474082181120 from by simp [rhi, es]]
        clear h2 h3 es ha hb
        go_enter Tryz.func41, Tryz.ntmps41
        go_wp2
        go_quiet ((go_at_call 8; first | exact Calls.quiet_of_same (inf1_ _) | exact Calls.quiet_of_same (infm_ _)))
        go_wp2_with (first | (go_at_call 51; refine (empty6_ _).mono ?_; rintro e w' ⟨rfl, rfl⟩))
        exact bodyPost_ret (v := .agg #[.float .f64 9218868437227405312, .float .f64 18442240474082181120]) (by simp [results, Tryz.results41, go_sem] <;> simp only [*]) rfl ⟨rfl, (by repeat (with_reducible (first | assumption | exact Grown.refl _ | apply Grown.drew | apply Grown.alloc | apply gdrewN | (refine Grown.setCell ?_ (by simp <;> omega) _) | (refine gtrans ?_ (by assumption)))))⟩
      · have es : snd a b = true := by simp only [snd, h1, h2, h3]; simp
        rw [decide_eq_false h3] at t3
        rw [show rlo a b = pla a from by simp [rlo, es], show rhi a b = pla b from by simp [rhi, es]]
        clear h2 h3 es ha hb
        go_enter Tryz.func41, Tryz.ntmps41
        go_wp2
        go_quiet ((go_at_call 8; first | exact Calls.quiet_of_same (inf1_ _) | exact Calls.quiet_of_same (infm_ _)))
        go_wp2
        go_region_held3 (fun w' => w'.cell? ⟨w.heap.size, 0, none⟩ = some (.float .f64 a) ∧ w'.cell? ⟨w.heap.size, 1, none⟩ = some (.float .f64 b)) (simp [go_sem, World.cell?_alloc_past]) (first | (go_at_call 76; (first | refine (hpa _).mono ?_ | refine (hpb _).mono ?_); rintro e w' ⟨rfl, rfl⟩))
        go_wp2
        exact bodyPost_ret (v := .agg #[.float .f64 (pla a), .float .f64 (pla b)]) (by simp [results, Tryz.results41, go_sem] <;> simp only [*]) rfl ⟨rfl, (by repeat (with_reducible (first | assumption | exact Grown.refl _ | apply Grown.drew | apply Grown.alloc | apply gdrewN | (refine Grown.setCell ?_ (by simp <;> omega) _) | (refine gtrans ?_ (by assumption)))))⟩
  · have h1' : (FloatKind.f64.format.order a b == some Ordering.lt || FloatKind.f64.format.order a b == some Ordering.eq) = false := by simpa using h1
    have es : snd a b = false := by simp only [snd, h1']; simp
    rw [show rlo a b = 9218868437227405312 from by simp [rlo, es], show rhi a b = 18442240474082181120 from by simp [rhi, es]]
    clear h1 es ha hb t2 t3
    go_enter Tryz.func41, Tryz.ntmps41
    go_wp2
    go_quiet ((go_at_call 8; first | exact Calls.quiet_of_same (inf1_ _) | exact Calls.quiet_of_same (infm_ _)))
    go_wp2_with (first | (go_at_call 51; refine (empty6_ _).mono ?_; rintro e w' ⟨rfl, rfl⟩))
    exact bodyPost_ret (v := .agg #[.float .f64 9218868437227405312, .float .f64 18442240474082181120]) (by simp [results, Tryz.results41, go_sem] <;> simp only [*]) rfl ⟨rfl, (by repeat (with_reducible (first | assumption | exact Grown.refl _ | apply Grown.drew | apply Grown.alloc | apply gdrewN | (refine Grown.setCell ?_ (by simp <;> omega) _) | (refine gtrans ?_ (by assumption)))))⟩
end Fq
namespace Fq

theorem gfroz {W w : World} (h : Grown W w) {a : Addr} (_hb : a.block < W.heap.size) : w.frozen? a = W.frozen? a := Below.frozen h _hb
def H2 (w : World) (b : Nat) (u v : Value) : Prop := w.cell? ⟨b, 0, none⟩ = some u ∧ w.cell? ⟨b, 1, none⟩ = some v ∧ w.frozen? ⟨b, 0, none⟩ = false ∧ w.frozen? ⟨b, 1, none⟩ = false
theorem H2.keep {W w : World} {b : Nat} {u v : Value} (h : H2 W b u v) (g : Grown W w) : H2 w b u v :=
  ⟨gkeep g h.1, gkeep g h.2.1, (gfroz g (cell_lt h.1)).trans h.2.2.1, (gfroz g (cell_lt h.1)).trans h.2.2.2⟩
theorem H2.lt {w : World} {b : Nat} {u v : Value} (h : H2 w b u v) : b < w.heap.size := cell_lt h.1
theorem H2.new (w : World) (u v : Value) (t : TypeId) : H2 (w.alloc (.cells #[u, v] t)) w.heap.size u v := by
  unfold H2; simp [go_sem]
theorem H2.past {w : World} {b : Nat} {u v : Value} (h : H2 w b u v) (c : Array Value) (t : TypeId) : H2 (w.alloc (.cells c t)) b u v := h.keep (Grown.alloc (Grown.refl _) c t)
theorem H2.drew {w : World} {b : Nat} {u v : Value} (h : H2 w b u v) : H2 w.drew b u v := h.keep (Grown.drew (Grown.refl _))
theorem H2.drewN {w : World} {b : Nat} {u v : Value} (h : H2 w b u v) (n : Nat) : H2 (w.drewN n) b u v := h.keep (gdrewN n (Grown.refl _))
end Fq
namespace Fq

theorem H2.two (w : World) (a b c d : Value) (s t : TypeId) : H2 (((w.alloc (.cells #[a, b] s)).drew).alloc (.cells #[c, d] t)) (w.heap.size + 1) c d := by
  unfold H2; simp [go_sem]
theorem H2.put {w : World} {b : Nat} {u v : Value} (h : H2 w b u v) (u' v' : Value) : H2 ((w.setCell ⟨b, 0, none⟩ u').setCell ⟨b, 1, none⟩ v') b u' v' := by
  obtain ⟨h0, h1, h2, h3⟩ := h
  unfold H2; simp [go_sem, h0, h1, h2, h3]
theorem H2.far {w : World} {b : Nat} {u v : Value} (h : H2 w b u v) {c : Nat} (hne : c ≠ b) (u' v' : Value) : H2 ((w.setCell ⟨c, 0, none⟩ u').setCell ⟨c, 1, none⟩ v') b u v := by
  obtain ⟨h0, h1, h2, h3⟩ := h
  refine ⟨?_, ?_, ?_, ?_⟩
  · rw [World.cell?_setCell_far _ _ _ _ (by simpa using hne), World.cell?_setCell_far _ _ _ _ (by simpa using hne)]; exact h0
  · rw [World.cell?_setCell_far _ _ _ _ (by simpa using hne), World.cell?_setCell_far _ _ _ _ (by simpa using hne)]; exact h1
  · simp only [World.frozen?_setCell]; exact h2
  · simp only [World.frozen?_setCell]; exact h3
end Fq
theorem noTop (n : Bool) (m X : Nat) (hm : m < 9223372036854775808) (hX : X = Fq.wD n m) : bits BinOp.andNot IntKind.u64 (X : Int) 9223372036854775808 = (m : Int) ∧ X < 18446744073709551616 := by
  have hX9 : X < 18446744073709551616 := by rw [hX]; unfold Fq.wD; split <;> omega
  have h := u64_andNot_nat X 9223372036854775808 hX9 (by decide)
  have e : X % 9223372036854775808 = m := by rw [hX]; unfold Fq.wD; split <;> omega
  rw [show 18446744073709551615 - 9223372036854775808 = 2 ^ 63 - 1 from by decide, Nat.and_two_pow_sub_one_eq_mod, show (2 : Nat) ^ 63 = 9223372036854775808 from by decide, e] at h
  exact ⟨h, hX9⟩
set_option maxRecDepth 20000 in
set_option maxHeartbeats 400000 in
theorem abs_ (n : Bool) (m : Nat) (hm : m < 9223372036854775808) (w : World) : Calls Tryz.prog 92 #[.float .f64 (Fq.wD n m)] w fun e w' => e = .returned (.float .f64 m) ∧ w' = w := by
  obtain ⟨X, hX⟩ : ∃ X, X = Fq.wD n m := ⟨_, rfl⟩
  have f1 := (noTop n m X hm hX).1
  rw [← hX]
  clear hX hm
  have h1 := Fq.fb64 X
  have h2 := Fq.ff64 m
  go_enter Tryz.func92, Tryz.ntmps92
  go_wp2
  exact bodyPost_ret (v := .float .f64 m) (by simp [results, Tryz.results92, go_sem]) rfl ⟨rfl, rfl⟩
open Ieee in
theorem fin_order (m : Nat) (hm : m < 9223372036854775808) : (FloatKind.f64.format.order m 9218868437227405311 == some Ordering.lt || FloatKind.f64.format.order m 9218868437227405311 == some Ordering.eq) = decide (m < 9218868437227405312) := by
  have hf : FloatKind.f64.format = double := rfl
  have hi : double.infRung = 9218868437227405312 := by decide +kernel
  have hw : double.signWeight = 9223372036854775808 := by decide +kernel
  have hb : double.binade ≤ double.infRung := by decide +kernel
  have r1 : Fq.rg double m = m := by unfold Fq.rg; rw [hw]; exact Nat.mod_eq_of_lt hm
  have r2 : Fq.rg double 9218868437227405311 = 9218868437227405311 := by unfold Fq.rg; rw [hw]
  have p1 : Fq.pl double m = (m : Int) := by
    unfold Fq.pl Fq.ng
    rw [r1, hw, Nat.div_eq_of_lt hm]; rfl
  have p2 : Fq.pl double 9218868437227405311 = 9218868437227405311 := by
    unfold Fq.pl Fq.ng
    rw [r2, hw]; rfl
  rw [hf]
  by_cases c : m ≤ 9218868437227405312
  · rw [Fq.order_num double m 9218868437227405311 hb (by rw [r1, hi]; exact c) (by rw [r2, hi]; decide), p1, p2]
    by_cases c1 : m < 9218868437227405312
    · rw [decide_eq_true c1]
      by_cases c2 : m = 9218868437227405311
      · rw [c2]; rfl
      · rw [show compare (m : Int) 9218868437227405311 = Ordering.lt from by rw [Int.compare_eq_lt]; omega]; rfl
    · rw [decide_eq_false c1, show compare (m : Int) 9218868437227405311 = Ordering.gt from by rw [Int.compare_eq_gt]; omega]; rfl
  · rw [Fq.order_nan_left double m 9218868437227405311 hb (by rw [r1, hi]; omega), decide_eq_false (by omega)]; rfl
set_option maxRecDepth 20000 in
set_option maxHeartbeats 400000 in
theorem finite_ (n : Bool) (m : Nat) (hm : m < 9223372036854775808) (w : World) : Calls Tryz.prog 97 #[.float .f64 (Fq.wD n m)] w fun e w' => e = .returned (.bool (decide (m < 9218868437227405312))) ∧ w' = w := by
  have h := abs_ n m hm w
  obtain ⟨X, hX⟩ : ∃ X, X = Fq.wD n m := ⟨_, rfl⟩
  rw [← hX] at h ⊢
  clear hX
  go_enter Tryz.func97, Tryz.ntmps97
  go_wp2_with fail
  refine h.mono ?_; rintro e w' ⟨rfl, hw'⟩; obtain rfl := hw'.symm; clear h hw'
  go_wp2
  exact bodyPost_ret (v := .bool (decide (m < 9218868437227405312))) (by rw [← fin_order m hm]; simp [results, Tryz.results97, go_sem]) rfl ⟨rfl, rfl⟩
end Go.Proofs.YthdnajcgdngmcaaGreatDoor
