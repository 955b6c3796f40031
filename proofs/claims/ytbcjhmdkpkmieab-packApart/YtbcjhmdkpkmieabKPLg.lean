import Derived.Test.YtbcjhmdkpkmieabKPKs
import Derived.Test.YtbcjhmdkpkmieabKPLf
namespace Go.Proofs.Ytbcjhmdkpkmieab
open Go.RowKit
open Go
namespace B8
set_option maxRecDepth 20000 in
set_option maxHeartbeats 4000000 in
theorem apartA_ (X1 X2 Y1 Y2 P1 P2 Q1 Q2 : Int) (a b c d : Nat) (xs ys : List Int) (hl1 : xs.length = 16) (hl2 : ys.length = 16) (hi1 : ∀ w : World, Calls Try.prog 11 #[.agg #[.int .u64 X1, .int .u64 X2]] w fun e w' => e = .returned (.agg #[.float .f64 a, .float .f64 b]) ∧ Kp w w') (hi2 : ∀ w : World, Calls Try.prog 11 #[.agg #[.int .u64 Y1, .int .u64 Y2]] w fun e w' => e = .returned (.agg #[.float .f64 c, .float .f64 d]) ∧ Kp w w') (hp1 : ∀ w : World, Calls Try.prog 10 #[.agg #[.float .f64 a, .float .f64 b]] w fun e w' => ∃ g, e = .returned (.slice (some ⟨g, 0, none⟩) 16 16) ∧ w.heap.size ≤ g ∧ Rw w' g 16 xs ∧ Kp w w') (hp2 : ∀ w : World, Calls Try.prog 10 #[.agg #[.float .f64 c, .float .f64 d]] w fun e w' => ∃ g, e = .returned (.slice (some ⟨g, 0, none⟩) 16 16) ∧ w.heap.size ≤ g ∧ Rw w' g 16 ys ∧ Kp w w') (hr1 : ∀ w : World, Calls Try.prog 13 #[.agg #[.int .u64 X1, .int .u64 X2]] w fun e w' => e = .returned (.agg #[.int .u64 P1, .int .u64 P2]) ∧ Kp w w') (hr2 : ∀ w : World, Calls Try.prog 13 #[.agg #[.int .u64 Y1, .int .u64 Y2]] w fun e w' => e = .returned (.agg #[.int .u64 Q1, .int .u64 Q2]) ∧ Kp w w') (E1 E2 : Bool) (t1 : (P1 == Q1) = E1) (t2 : (P2 == Q2) = E2) (hV : decide (xs = ys) = (E1 && E2)) (w : World) : Calls Try.prog 5 #[.agg #[.int .u64 X1, .int .u64 X2], .agg #[.int .u64 Y1, .int .u64 Y2]] w fun e w' => e = .returned (.bool true) ∧ Kp w w' := by
  have hs : ∀ (p q : Option Addr) (c d : Nat) (W : World), Arr W p xs → Arr W q ys → Calls Try.prog 22 #[.slice p 16 c, .slice q 16 d] W fun e w' => e = .returned (.bool (E1 && E2)) ∧ Kp W w' := by
    intro p q c d W h1 h2
    have := same_ p q c d xs ys W h1 h2 (by rw [hl1]; decide)
    rw [hl1, hl2, hV] at this
    exact this
  clear hV
  cases E1 <;> cases E2
  all_goals (
    go_enter Try.func5, Try.ntmps5
    go_upto_region 3 with (first | (go_at_call 8; refine (awake_ _).mono ?_; rintro e w9 ⟨rfl, g9⟩))
    have sx := Fq.H2.keep (Fq.H2.keep (Fq.H2.new w (.int .u64 X1) (.int .u64 X2) 25) ((Kp.refl _).alloc (.cells #[.int .u64 Y1, .int .u64 Y2] 25))) g9
    have sy := Fq.H2.keep (h2snd w #[.int .u64 X1, .int .u64 X2] (.int .u64 Y1) (.int .u64 Y2) 25 25) g9
    have kw : Kp w w9 := Kp.trans (((Kp.refl w).alloc _).alloc _) g9
    generalize w9 = w0 at sx sy kw ⊢
    generalize w.heap.size + 1 = C at sy ⊢
    generalize w.heap.size = B at sx ⊢
    obtain ⟨x0, x1, x2, x3⟩ := id sx
    obtain ⟨y0, y1, y2, y3⟩ := id sy
    clear g9
    go_region_held3 (fun w' => w'.cell? ⟨B, 0, none⟩ = some (.int .u64 X1) ∧ w'.cell? ⟨B, 1, none⟩ = some (.int .u64 X2) ∧ w'.cell? ⟨C, 0, none⟩ = some (.int .u64 Y1) ∧ w'.cell? ⟨C, 1, none⟩ = some (.int .u64 Y2)) (refine ⟨kkeep (W := w0) ?_ x0, kkeep (W := w0) ?_ x1, kkeep (W := w0) ?_ y0, kkeep (W := w0) ?_ y1⟩ <;> ((repeat (first | with_reducible exact kk7 | with_reducible exact kk6 | with_reducible exact kk5 | with_reducible exact kk4 | with_reducible exact kk3 | with_reducible exact kk2 | with_reducible exact kk1 | with_reducible exact Kp.refl _ | with_reducible refine Kp.drew ?_)); done)) (first | (go_at_call_of 13 (Value.int .u64 Y1); refine (hr2 _).mono ?_; rintro e v7 ⟨rfl, k7⟩; have kk7 : Kp w0 v7 := Kp.trans ?q7 k7; (case q7 => ((repeat (first | with_reducible exact kk7 | with_reducible exact kk6 | with_reducible exact kk5 | with_reducible exact kk4 | with_reducible exact kk3 | with_reducible exact kk2 | with_reducible exact kk1 | with_reducible exact Kp.refl _ | with_reducible refine Kp.drew ?_)); done))) | (go_at_call_of 13 (Value.int .u64 X1); refine (hr1 _).mono ?_; rintro e v6 ⟨rfl, k6⟩; have kk6 : Kp w0 v6 := Kp.trans ?q6 k6; (case q6 => ((repeat (first | with_reducible exact kk7 | with_reducible exact kk6 | with_reducible exact kk5 | with_reducible exact kk4 | with_reducible exact kk3 | with_reducible exact kk2 | with_reducible exact kk1 | with_reducible exact Kp.refl _ | with_reducible refine Kp.drew ?_)); done))) | (go_at_call 22; refine (hs _ _ _ _ _ ax ay).mono ?_; rintro e v5 ⟨rfl, k5⟩; have kk5 : Kp w0 v5 := Kp.trans ?q5 k5; (case q5 => ((repeat (first | with_reducible exact kk7 | with_reducible exact kk6 | with_reducible exact kk5 | with_reducible exact kk4 | with_reducible exact kk3 | with_reducible exact kk2 | with_reducible exact kk1 | with_reducible exact Kp.refl _ | with_reducible refine Kp.drew ?_)); done))) | (go_at_call_of 10 (Value.float .f64 c); have hh := ax; refine (hp2 _).mono ?_; rintro e v4 ⟨g2, rfl, hg2, hR2, k4⟩; have kk4 : Kp w0 v4 := Kp.trans ?q4 k4; (case q4 => ((repeat (first | with_reducible exact kk7 | with_reducible exact kk6 | with_reducible exact kk5 | with_reducible exact kk4 | with_reducible exact kk3 | with_reducible exact kk2 | with_reducible exact kk1 | with_reducible exact Kp.refl _ | with_reducible refine Kp.drew ?_)); done)); replace ax := ax.grown k4; have ay := arr_all hR2 hl2) | (go_at_call_of 11 (Value.int .u64 Y1); have hh := ax; refine (hi2 _).mono ?_; rintro e v3 ⟨rfl, k3⟩; have kk3 : Kp w0 v3 := Kp.trans ?q3 k3; (case q3 => ((repeat (first | with_reducible exact kk7 | with_reducible exact kk6 | with_reducible exact kk5 | with_reducible exact kk4 | with_reducible exact kk3 | with_reducible exact kk2 | with_reducible exact kk1 | with_reducible exact Kp.refl _ | with_reducible refine Kp.drew ?_)); done)); replace ax := ax.grown k3) | (go_at_call_of 10 (Value.float .f64 a); refine (hp1 _).mono ?_; rintro e v2 ⟨g1, rfl, hg1, hR1, k2⟩; have kk2 : Kp w0 v2 := Kp.trans ?q2 k2; (case q2 => ((repeat (first | with_reducible exact kk7 | with_reducible exact kk6 | with_reducible exact kk5 | with_reducible exact kk4 | with_reducible exact kk3 | with_reducible exact kk2 | with_reducible exact kk1 | with_reducible exact Kp.refl _ | with_reducible refine Kp.drew ?_)); done)); have ax := arr_all hR1 hl1) | (go_at_call_of 11 (Value.int .u64 X1); refine (hi1 _).mono ?_; rintro e v1 ⟨rfl, k1⟩; have kk1 : Kp w0 v1 := Kp.trans ?q1 k1; (case q1 => ((repeat (first | with_reducible exact kk7 | with_reducible exact kk6 | with_reducible exact kk5 | with_reducible exact kk4 | with_reducible exact kk3 | with_reducible exact kk2 | with_reducible exact kk1 | with_reducible exact Kp.refl _ | with_reducible refine Kp.drew ?_)); done))))
    have hK := Kp.trans kw kk7
    clear kk7 kk6 kk5 kk4 kk3 kk2 kk1 k1 k2 k3 k4 k5 k6 k7 hs hi1 hi2 hp1 hp2 hr1 hr2
    go_wp2
    exact bodyPost_ret (v := .bool true) (by simp [results, Try.results5, go_sem]) rfl ⟨rfl, hK⟩)
theorem apartlaw_ (a b c d : Nat) (ha : a < 18446744073709551616) (hb : b < 18446744073709551616) (hc : c < 18446744073709551616) (hd : d < 18446744073709551616) (w : World) : Calls Try.prog 5 #[.agg #[.int .u64 ((a : Nat) : Int), .int .u64 ((b : Nat) : Int)], .agg #[.int .u64 ((c : Nat) : Int), .int .u64 ((d : Nat) : Int)]] w fun e w' => e = .returned (.bool true) ∧ Kp w w' := by
  obtain ⟨L1, H1, r1⟩ := Rd.ex a b ha hb
  obtain ⟨L2, H2, r2⟩ := Rd.ex c d hc hd
  have hl1 : (by8 (pw L1) ++ by8 (pw H1)).length = 16 := by rw [List.length_append, by8_len, by8_len]
  have hl2 : (by8 (pw L2) ++ by8 (pw H2)).length = 16 := by rw [List.length_append, by8_len, by8_len]
  have e1 : (pI L1 == pI L2) = decide (pw L1 = pw L2) := beqN _ _
  have e2 : (pI H1 == pI H2) = decide (pw H1 = pw H2) := beqN _ _
  refine apartA_ _ _ _ _ _ _ _ _ a b c d _ _ hl1 hl2 (in9_ a b) (in9_ c d) (put_ a b _ _ r1.call) (put_ c d _ _ r2.call) (rread9_ a b L1 H1 r1) (rread9_ c d L2 H2 r2) _ _ e1 e2 ?_ w
  rw [← Bool.decide_and]
  congr 1; apply propext
  constructor
  · intro h
    have h1 := List.append_inj h (by rw [by8_len, by8_len])
    exact ⟨by8_inj _ _ (pw_lt _ r1.vd.lo) (pw_lt _ r2.vd.lo) h1.1, by8_inj _ _ (pw_lt _ r1.vd.hi) (pw_lt _ r2.vd.hi) h1.2⟩
  · rintro ⟨h1, h2⟩
    rw [h1, h2]
end B8
end Go.Proofs.Ytbcjhmdkpkmieab
