import Derived.Test.YtbcjhmdkpkmieaaKPKh
import Derived.Test.YtbcjhmdkpkmieaaKPKs
import Derived.Test.YtbcjhmdkpkmieaaKPKw
namespace Go.Proofs.Ytbcjhmdkpkmieaa
open Go.RowKit
open Go
namespace B8
set_option maxRecDepth 20000 in
set_option maxHeartbeats 1000000 in
theorem rgetN_ (p : Option Addr) (N c : Nat) (t : ((N : Int) != 16) = true) (w : World) : Calls Try.prog 21 #[.slice p N c] w fun e w' => e = .returned (.tuple #[.agg #[.int .u64 0, .int .u64 0], .int .i64 130]) ∧ Kp w w' := by
  go_enter Try.func21, Try.ntmps21
  go_wp2
  exact bodyPost_ret (v := .tuple #[.agg #[.int .u64 0, .int .u64 0], .int .i64 130]) (by simp [results, Try.results21, go_sem]) rfl ⟨rfl, (by repeat (with_reducible (first | assumption | exact Kp.refl _ | apply Kp.drew | apply Kp.alloc | apply Kp.drewN | (refine Kp.setCell ?_ (by first | omega | (simp <;> omega)) _) | (refine Kp.trans ?_ (by assumption)))))⟩
set_option maxRecDepth 20000 in
set_option maxHeartbeats 1000000 in
theorem rgetV_ (p : Option Addr) (c : Nat) (X Y : Int) (w : World) (HT1 : ∀ W : World, Kp w W → Calls Try.prog 44 #[.slice p 16 c, .int .i64 0] W fun e w' => e = .returned (.int .u64 X) ∧ w' = W) (HT2 : ∀ W : World, Kp w W → Calls Try.prog 44 #[.slice p 16 c, .int .i64 8] W fun e w' => e = .returned (.int .u64 Y) ∧ w' = W) (hv : ∀ w : World, Calls Try.prog 45 #[.agg #[.int .u64 X, .int .u64 Y]] w fun e w' => e = .returned (.bool false) ∧ Kp w w') : Calls Try.prog 21 #[.slice p 16 c] w fun e w' => e = .returned (.tuple #[.agg #[.int .u64 0, .int .u64 0], .int .i64 130]) ∧ Kp w w' := by
  go_enter Try.func21, Try.ntmps21
  go_wp2_with (first | (go_at_call_of 44 (Value.int .i64 0); refine (HT1 _ ?qk).mono ?_; (case qk => ((repeat (first | with_reducible exact Kp.refl _ | with_reducible refine Kp.drew ?_ | with_reducible refine Kp.alloc ?_ _)); done)); rintro e w' ⟨rfl, rfl⟩) | (go_at_call_of 44 (Value.int .i64 8); refine (HT2 _ ?ql).mono ?_; (case ql => ((repeat (first | with_reducible exact Kp.refl _ | with_reducible refine Kp.drew ?_ | with_reducible refine Kp.alloc ?_ _)); done)); rintro e w' ⟨rfl, rfl⟩) | (go_at_call 45; refine (hv _).mono ?_; rintro e w2 ⟨rfl, g2⟩; have k2 : Kp w w2 := Kp.trans ((((Kp.refl w).alloc _).alloc _).alloc _) g2; have sr := Fq.H2.keep (Fq.H2.past (Fq.H2.past (Fq.H2.new w (.int .u64 0) (.int .u64 0) 42) #[.int .u64 0, .int .u64 0] 42) #[.int .u64 X, .int .u64 Y] 42) g2; have sz := Fq.H2.keep (Fq.H2.past (h2snd w #[.int .u64 0, .int .u64 0] (.int .u64 0) (.int .u64 0) 42 42) #[.int .u64 X, .int .u64 Y] 42) g2; have sy := Fq.H2.keep (h2trd w #[.int .u64 0, .int .u64 0] #[.int .u64 0, .int .u64 0] (.int .u64 X) (.int .u64 Y) 42 42 42) g2; obtain ⟨r0, r1, r2, r3⟩ := id sr; obtain ⟨z0, z1, z2, z3⟩ := id sz; obtain ⟨y0, y1, y2, y3⟩ := id sy))
  exact bodyPost_ret (v := .tuple #[.agg #[.int .u64 0, .int .u64 0], .int .i64 130]) (by simp [results, Try.results21, go_sem, r0, r1]) rfl ⟨rfl, ((k2.setCell (by simp) _).setCell (by simp) _)⟩
set_option maxRecDepth 20000 in
set_option maxHeartbeats 1000000 in
theorem rgetY_ (p : Option Addr) (c : Nat) (X Y : Int) (w : World) (HT1 : ∀ W : World, Kp w W → Calls Try.prog 44 #[.slice p 16 c, .int .i64 0] W fun e w' => e = .returned (.int .u64 X) ∧ w' = W) (HT2 : ∀ W : World, Kp w W → Calls Try.prog 44 #[.slice p 16 c, .int .i64 8] W fun e w' => e = .returned (.int .u64 Y) ∧ w' = W) (hv : ∀ w : World, Calls Try.prog 45 #[.agg #[.int .u64 X, .int .u64 Y]] w fun e w' => e = .returned (.bool true) ∧ Kp w w') (zs : List Int) (hlz : zs.length = 16) (hf : ∀ w : World, Calls Try.prog 40 #[.agg #[.int .u64 X, .int .u64 Y]] w fun e w' => ∃ v, e = .returned v ∧ Own w' w.heap.size v zs ∧ Kp w w') (hlk : ∀ (q : Option Addr) (d : Nat) (W : World), Kp w W → Arr W q zs → Calls Try.prog 46 #[.slice q 16 d, .slice p 16 c] W fun e w' => e = .returned (.bool true) ∧ Kp W w') : Calls Try.prog 21 #[.slice p 16 c] w fun e w' => e = .returned (.tuple #[.agg #[.int .u64 X, .int .u64 Y], .int .i64 0]) ∧ Kp w w' := by
  go_enter Try.func21, Try.ntmps21
  go_wp2_with (first | (go_at_call_of 44 (Value.int .i64 0); refine (HT1 _ ?qk).mono ?_; (case qk => ((repeat (first | with_reducible exact Kp.refl _ | with_reducible refine Kp.drew ?_ | with_reducible refine Kp.alloc ?_ _)); done)); rintro e w' ⟨rfl, rfl⟩) | (go_at_call_of 44 (Value.int .i64 8); refine (HT2 _ ?ql).mono ?_; (case ql => ((repeat (first | with_reducible exact Kp.refl _ | with_reducible refine Kp.drew ?_ | with_reducible refine Kp.alloc ?_ _)); done)); rintro e w' ⟨rfl, rfl⟩) | (go_at_call 45; refine (hv _).mono ?_; rintro e w2 ⟨rfl, g2⟩; have k2 : Kp w w2 := Kp.trans ((((Kp.refl w).alloc _).alloc _).alloc _) g2; have sr := Fq.H2.keep (Fq.H2.past (Fq.H2.past (Fq.H2.new w (.int .u64 0) (.int .u64 0) 42) #[.int .u64 0, .int .u64 0] 42) #[.int .u64 X, .int .u64 Y] 42) g2; have sz := Fq.H2.keep (Fq.H2.past (h2snd w #[.int .u64 0, .int .u64 0] (.int .u64 0) (.int .u64 0) 42 42) #[.int .u64 X, .int .u64 Y] 42) g2; have sy := Fq.H2.keep (h2trd w #[.int .u64 0, .int .u64 0] #[.int .u64 0, .int .u64 0] (.int .u64 X) (.int .u64 Y) 42 42 42) g2; obtain ⟨r0, r1, r2, r3⟩ := id sr; obtain ⟨z0, z1, z2, z3⟩ := id sz; obtain ⟨y0, y1, y2, y3⟩ := id sy) | (go_at_call 40; refine (hf _).mono ?_; rintro e w3 ⟨v, rfl, o3, g3⟩; have k3 := Kp.trans k2 g3; obtain ⟨p3, c3, rfl, a3, -⟩ := o3.arr; rw [hlz]; replace sr := Fq.H2.keep sr g3; replace sz := Fq.H2.keep sz g3; replace sy := Fq.H2.keep sy g3; clear r0 r1 r2 r3 z0 z1 z2 z3 y0 y1 y2 y3; obtain ⟨r0, r1, r2, r3⟩ := id sr; obtain ⟨z0, z1, z2, z3⟩ := id sz; obtain ⟨y0, y1, y2, y3⟩ := id sy) | (go_at_call 46; refine (hlk _ _ _ k3 a3).mono ?_; rintro e w4 ⟨rfl, g4⟩; have k4 := Kp.trans k3 g4; replace sr := Fq.H2.keep sr g4; replace sz := Fq.H2.keep sz g4; replace sy := Fq.H2.keep sy g4; clear r0 r1 r2 r3 z0 z1 z2 z3 y0 y1 y2 y3; obtain ⟨r0, r1, r2, r3⟩ := id sr; obtain ⟨z0, z1, z2, z3⟩ := id sz; obtain ⟨y0, y1, y2, y3⟩ := id sy))
  exact bodyPost_ret (v := .tuple #[.agg #[.int .u64 X, .int .u64 Y], .int .i64 0]) (by simp [results, Try.results21, go_sem, r0, r1]) rfl ⟨rfl, ((k4.setCell (by simp) _).setCell (by simp) _)⟩
theorem rget_ (p : Option Addr) (c N : Nat) (xs : List Int) (w : World) (hx : Arr w p xs) (hl : xs.length = N) (hw : Wb xs) : Calls Try.prog 21 #[.slice p N c] w fun e w' => e = .returned (.tuple #[.agg #[.int .u64 ((gX xs : Nat) : Int), .int .u64 ((gY xs : Nat) : Int)], .int .i64 (gE xs)]) ∧ Kp w w' := by
  subst hl
  by_cases h : xs.length = 16
  · have l1 : (xs.take 8).length = 8 := by rw [List.length_take]; omega
    have l2 : (xs.drop 8).length = 8 := by rw [List.length_drop]; omega
    have w1 := hw.take 8
    have w2 := hw.drop 8
    have HT1 : ∀ W : World, Kp w W → Calls Try.prog 44 #[.slice p 16 c, .int .i64 0] W fun e w' => e = .returned (.int .u64 ((bv (xs.take 8) : Nat) : Int)) ∧ w' = W := by
      intro W k
      have := taken_ p c 0 16 xs W (hx.grown k) h hw (by decide) (by decide)
      rw [List.drop_zero] at this
      exact this
    have HT2 : ∀ W : World, Kp w W → Calls Try.prog 44 #[.slice p 16 c, .int .i64 8] W fun e w' => e = .returned (.int .u64 ((bv (xs.drop 8) : Nat) : Int)) ∧ w' = W := by
      intro W k
      have := taken_ p c 8 16 xs W (hx.grown k) h hw (by decide) (by decide)
      rw [List.take_of_length_le (by omega)] at this
      exact this
    have hv := rvalid9n_ (bv (xs.take 8)) (bv (xs.drop 8)) (bv_lt8 _ l1 w1) (bv_lt8 _ l2 w2)
    have hf := rform_ (bv (xs.take 8)) (bv (xs.drop 8)) (bv_lt8 _ l1 w1) (bv_lt8 _ l2 w2)
    rw [by8_bv _ l1 w1, by8_bv _ l2 w2, List.take_append_drop] at hf
    have hlk : ∀ (q : Option Addr) (d : Nat) (W : World), Kp w W → Arr W q xs → Calls Try.prog 46 #[.slice q 16 d, .slice p 16 c] W fun e w' => e = .returned (.bool true) ∧ Kp W w' := by
      intro q d W k a
      have := like_ q p d c xs xs W a (hx.grown k) (by rw [h]; decide)
      rw [h, decide_eq_true rfl] at this
      exact this
    rw [h]
    unfold gX gY gE gOk
    rw [decide_eq_true h, Bool.true_and]
    cases hvv : Fq.vld (bv (xs.take 8)) (bv (xs.drop 8))
    · rw [hvv] at hv
      exact rgetV_ p c _ _ w HT1 HT2 hv
    · rw [hvv] at hv
      exact rgetY_ p c _ _ w HT1 HT2 hv xs h hf hlk
  · unfold gX gY gE gOk
    rw [decide_eq_false h, Bool.false_and]
    exact rgetN_ p _ c (by simp; omega) w
end B8
end Go.Proofs.Ytbcjhmdkpkmieaa
