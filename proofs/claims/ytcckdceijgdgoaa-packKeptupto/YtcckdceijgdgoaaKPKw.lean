import Derived.Test.YtcckdceijgdgoaaKPKc
import Derived.Test.YtcckdceijgdgoaaKPKl
import Derived.Test.YtcckdceijgdgoaaKPVa
namespace Go.Proofs.Ytcckdceijgdgoaa
open Go.RowKit
open Go
namespace B8
theorem h2snd (w : World) (x : Array Value) (c d : Value) (s t : TypeId) : Fq.H2 ((w.alloc (.cells x s)).alloc (.cells #[c, d] t)) (w.heap.size + 1) c d := by
  unfold Fq.H2; simp [go_sem]
def gOk (xs : List Int) : Bool := decide (xs.length = 16) && Fq.vld (bv (xs.take 8)) (bv (xs.drop 8))
def gX (xs : List Int) : Nat := if gOk xs then bv (xs.take 8) else 0
def gY (xs : List Int) : Nat := if gOk xs then bv (xs.drop 8) else 0
def gE (xs : List Int) : Int := if gOk xs then 0 else 130
theorem Arr.part {w : World} {b off : Nat} {xs : List Int} (h : ∀ j, j < xs.length → w.cell? ⟨b, off + j, none⟩ = some (.int .u8 (xs.getD j 0))) (o m : Nat) : Arr w (some ⟨b, off + o, none⟩) ((xs.drop o).take m) := Or.inr ⟨b, off + o, rfl, fun j hj => by
  rw [List.length_take, List.length_drop] at hj
  rw [Nat.add_assoc, h (o + j) (by omega)]
  simp [List.getD, List.getElem?_drop, show j < m from by omega]⟩
set_option maxRecDepth 20000 in
set_option maxHeartbeats 1000000 in
theorem getN_ (p : Option Addr) (N c : Nat) (t : ((N : Int) != 16) = true) (w : World) : Calls Try.prog 9 #[.slice p N c] w fun e w' => e = .returned (.tuple #[.agg #[.float .f64 0, .float .f64 0], .int .i64 130]) ∧ Kp w w' := by
  go_enter Try.func9, Try.ntmps9
  go_wp2
  exact bodyPost_ret (v := .tuple #[.agg #[.float .f64 0, .float .f64 0], .int .i64 130]) (by simp [results, Try.results9, go_sem]) rfl ⟨rfl, (by repeat (with_reducible (first | assumption | exact Kp.refl _ | apply Kp.drew | apply Kp.alloc | apply Kp.drewN | (refine Kp.setCell ?_ (by first | omega | (simp <;> omega)) _) | (refine Kp.trans ?_ (by assumption)))))⟩
set_option maxRecDepth 20000 in
set_option maxHeartbeats 1000000 in
theorem getY_ (b off o2 c X Y : Nat) (HC1 : ∀ w : World, Calls Try.prog 29 #[.slice (some ⟨b, off, none⟩) 16 c, .int .i64 0, .int .i64 8] w fun e w' => e = .returned (.slice (some ⟨b, off, none⟩) 8 8) ∧ w' = w) (HC2 : ∀ w : World, Calls Try.prog 29 #[.slice (some ⟨b, off, none⟩) 16 c, .int .i64 8, .int .i64 8] w fun e w' => e = .returned (.slice (some ⟨b, o2, none⟩) 8 8) ∧ w' = w) (w : World) (HN1 : ∀ W : World, Kp w W → Calls Try.prog 28 #[.slice (some ⟨b, off, none⟩) 8 8] W fun e w' => e = .returned (.float .f64 X) ∧ w' = W) (HN2 : ∀ W : World, Kp w W → Calls Try.prog 28 #[.slice (some ⟨b, o2, none⟩) 8 8] W fun e w' => e = .returned (.float .f64 Y) ∧ w' = W) (hv : ∀ w : World, Calls Try.prog 30 #[.agg #[.float .f64 X, .float .f64 Y]] w fun e w' => e = .returned (.bool true) ∧ Kp w w') : Calls Try.prog 9 #[.slice (some ⟨b, off, none⟩) 16 c] w fun e w' => e = .returned (.tuple #[.agg #[.float .f64 X, .float .f64 Y], .int .i64 0]) ∧ Kp w w' := by
  go_enter Try.func9, Try.ntmps9
  go_wp2_with (first | (go_at_call_of 29 (Value.int .i64 0); refine (HC1 _).mono ?_; rintro e w' ⟨rfl, rfl⟩) | (go_at_call 29; refine (HC2 _).mono ?_; rintro e w' ⟨rfl, rfl⟩) | (go_at_call_of 28 (Value.slice (some ⟨b, off, none⟩) 8 8); refine (HN1 _ ?qk).mono ?_; (case qk => ((repeat (first | with_reducible exact Kp.refl _ | with_reducible refine Kp.drew ?_ | with_reducible refine Kp.alloc ?_ _)); done)); rintro e w' ⟨rfl, rfl⟩) | (go_at_call_of 28 (Value.slice (some ⟨b, o2, none⟩) 8 8); refine (HN2 _ ?ql).mono ?_; (case ql => ((repeat (first | with_reducible exact Kp.refl _ | with_reducible refine Kp.drew ?_ | with_reducible refine Kp.alloc ?_ _)); done)); rintro e w' ⟨rfl, rfl⟩) | (go_at_call 30; refine (hv _).mono ?_; rintro e w2 ⟨rfl, g2⟩; have k2 : Kp w w2 := Kp.trans (((Kp.refl w).alloc _).alloc _) g2; obtain ⟨r0, r1, r2, r3⟩ := Fq.H2.keep (Fq.H2.past (Fq.H2.new w (.float .f64 0) (.float .f64 0) 31) #[.float .f64 X, .float .f64 Y] 31) g2; obtain ⟨y0, y1, y2, y3⟩ := Fq.H2.keep (h2snd w #[.float .f64 0, .float .f64 0] (.float .f64 X) (.float .f64 Y) 31 31) g2))
  exact bodyPost_ret (v := .tuple #[.agg #[.float .f64 X, .float .f64 Y], .int .i64 0]) (by simp [results, Try.results9, go_sem, r0, r1]) rfl ⟨rfl, ((k2.setCell (by simp) _).setCell (by simp) _)⟩
set_option maxRecDepth 20000 in
set_option maxHeartbeats 1000000 in
theorem getV_ (b off o2 c X Y : Nat) (HC1 : ∀ w : World, Calls Try.prog 29 #[.slice (some ⟨b, off, none⟩) 16 c, .int .i64 0, .int .i64 8] w fun e w' => e = .returned (.slice (some ⟨b, off, none⟩) 8 8) ∧ w' = w) (HC2 : ∀ w : World, Calls Try.prog 29 #[.slice (some ⟨b, off, none⟩) 16 c, .int .i64 8, .int .i64 8] w fun e w' => e = .returned (.slice (some ⟨b, o2, none⟩) 8 8) ∧ w' = w) (w : World) (HN1 : ∀ W : World, Kp w W → Calls Try.prog 28 #[.slice (some ⟨b, off, none⟩) 8 8] W fun e w' => e = .returned (.float .f64 X) ∧ w' = W) (HN2 : ∀ W : World, Kp w W → Calls Try.prog 28 #[.slice (some ⟨b, o2, none⟩) 8 8] W fun e w' => e = .returned (.float .f64 Y) ∧ w' = W) (hv : ∀ w : World, Calls Try.prog 30 #[.agg #[.float .f64 X, .float .f64 Y]] w fun e w' => e = .returned (.bool false) ∧ Kp w w') : Calls Try.prog 9 #[.slice (some ⟨b, off, none⟩) 16 c] w fun e w' => e = .returned (.tuple #[.agg #[.float .f64 0, .float .f64 0], .int .i64 130]) ∧ Kp w w' := by
  go_enter Try.func9, Try.ntmps9
  go_wp2_with (first | (go_at_call_of 29 (Value.int .i64 0); refine (HC1 _).mono ?_; rintro e w' ⟨rfl, rfl⟩) | (go_at_call 29; refine (HC2 _).mono ?_; rintro e w' ⟨rfl, rfl⟩) | (go_at_call_of 28 (Value.slice (some ⟨b, off, none⟩) 8 8); refine (HN1 _ ?qk).mono ?_; (case qk => ((repeat (first | with_reducible exact Kp.refl _ | with_reducible refine Kp.drew ?_ | with_reducible refine Kp.alloc ?_ _)); done)); rintro e w' ⟨rfl, rfl⟩) | (go_at_call_of 28 (Value.slice (some ⟨b, o2, none⟩) 8 8); refine (HN2 _ ?ql).mono ?_; (case ql => ((repeat (first | with_reducible exact Kp.refl _ | with_reducible refine Kp.drew ?_ | with_reducible refine Kp.alloc ?_ _)); done)); rintro e w' ⟨rfl, rfl⟩) | (go_at_call 30; refine (hv _).mono ?_; rintro e w2 ⟨rfl, g2⟩; have k2 : Kp w w2 := Kp.trans (((Kp.refl w).alloc _).alloc _) g2; obtain ⟨r0, r1, r2, r3⟩ := Fq.H2.keep (Fq.H2.past (Fq.H2.new w (.float .f64 0) (.float .f64 0) 31) #[.float .f64 X, .float .f64 Y] 31) g2; obtain ⟨y0, y1, y2, y3⟩ := Fq.H2.keep (h2snd w #[.float .f64 0, .float .f64 0] (.float .f64 X) (.float .f64 Y) 31 31) g2))
  exact bodyPost_ret (v := .tuple #[.agg #[.float .f64 0, .float .f64 0], .int .i64 130]) (by simp [results, Try.results9, go_sem, r0, r1]) rfl ⟨rfl, ((k2.setCell (by simp) _).setCell (by simp) _)⟩
theorem get_ (p : Option Addr) (c N : Nat) (xs : List Int) (w : World) (hx : Arr w p xs) (hl : xs.length = N) (hw : Wb xs) (hc : N ≤ c) : Calls Try.prog 9 #[.slice p N c] w fun e w' => e = .returned (.tuple #[.agg #[.float .f64 (gX xs), .float .f64 (gY xs)], .int .i64 (gE xs)]) ∧ Kp w w' := by
  subst hl
  by_cases h : xs.length = 16
  · obtain ⟨b, off, rfl, hcell⟩ := hx.at (k := 0) (by omega)
    have HC1 : ∀ w : World, Calls Try.prog 29 #[.slice (some ⟨b, off, none⟩) 16 c, .int .i64 0, .int .i64 8] w fun e w' => e = .returned (.slice (some ⟨b, off, none⟩) 8 8) ∧ w' = w := cut_ b off 16 c 0 8 (by omega) (by decide) (by decide)
    have HC2 : ∀ w : World, Calls Try.prog 29 #[.slice (some ⟨b, off, none⟩) 16 c, .int .i64 8, .int .i64 8] w fun e w' => e = .returned (.slice (some ⟨b, off + 8, none⟩) 8 8) ∧ w' = w := cut_ b off 16 c 8 8 (by omega) (by decide) (by decide)
    have a1 := Arr.part hcell 0 8
    have a2 := Arr.part hcell 8 8
    rw [Nat.add_zero, List.drop_zero] at a1
    have l1 : (xs.take 8).length = 8 := by rw [List.length_take]; omega
    have l2 : (xs.drop 8).length = 8 := by rw [List.length_drop]; omega
    rw [List.take_of_length_le (by omega)] at a2
    have w1 := hw.take 8
    have w2 := hw.drop 8
    have HN1 : ∀ W : World, Kp w W → Calls Try.prog 28 #[.slice (some ⟨b, off, none⟩) 8 8] W fun e w' => e = .returned (.float .f64 (bv (xs.take 8))) ∧ w' = W := fun W k => number_ _ 8 _ W (a1.grown k) l1 w1
    have HN2 : ∀ W : World, Kp w W → Calls Try.prog 28 #[.slice (some ⟨b, off + 8, none⟩) 8 8] W fun e w' => e = .returned (.float .f64 (bv (xs.drop 8))) ∧ w' = W := fun W k => number_ _ 8 _ W (a2.grown k) l2 w2
    have hv := Fq.valid_ (bv (xs.take 8)) (bv (xs.drop 8)) (bv_lt8 _ l1 w1) (bv_lt8 _ l2 w2)
    rw [h]
    unfold gX gY gE gOk
    rw [decide_eq_true h, Bool.true_and]
    cases hvv : Fq.vld (bv (xs.take 8)) (bv (xs.drop 8))
    · rw [hvv] at hv
      exact getV_ b off (off + 8) c _ _ HC1 HC2 w HN1 HN2 hv
    · rw [hvv] at hv
      exact getY_ b off (off + 8) c _ _ HC1 HC2 w HN1 HN2 hv
  · unfold gX gY gE gOk
    rw [decide_eq_false h, Bool.false_and]
    exact getN_ p _ c (by simp; omega) w
end B8
end Go.Proofs.Ytcckdceijgdgoaa
