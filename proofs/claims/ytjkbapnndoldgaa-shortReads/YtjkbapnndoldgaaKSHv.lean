import Derived.Test.YtjkbapnndoldgaaKSHb
namespace Go.Proofs.Ytjkbapnndoldgaa
open Go.RowKit

set_option linter.unusedVariables false
theorem rkS_eq (n n' : Bool) (m m' : Nat) (h : m < 2147483648) (h' : m' ≤ 2139095040) (hz : n' = true → m' ≠ 0) : (Fq.cmpz (Fq.rkS n m) (Fq.rkS n' m') == 0) = decide (Fq.wS n m = Fq.wS n' m') := by
  have e : (Fq.cmpz (Fq.rkS n m) (Fq.rkS n' m') == 0) = decide (Fq.rkS n m = Fq.rkS n' m') := by
    unfold Fq.cmpz
    rcases Int.lt_trichotomy (Fq.rkS n m) (Fq.rkS n' m') with g | g | g
    · rw [decide_eq_false (by omega)]; simp [g]
    · rw [decide_eq_true g, g]; simp
    · rw [decide_eq_false (by omega)]; simp [g]; omega
  rw [e]
  congr 1; apply propext
  unfold Fq.rkS Fq.rkG Fq.wS Fq.plz
  cases n <;> cases n' <;> simp at hz ⊢ <;> repeat' split
  all_goals omega
theorem shOrder_ (a : Nat) (z : Int) (ha : a < 4294967296) (hz : Sg.BdZ z) (w : World) : Calls Try.prog 36 #[.float .f32 a, .float .f32 (Sg.pw z)] w fun e w' => ∃ c : Int, e = .returned (.int .i64 c) ∧ (c == 0) = decide (a = Sg.pw z) ∧ Kp w w' := by
  obtain ⟨n, m, hm, rfl⟩ := Fq.exS a ha
  have := Sg.abs_pw z hz
  refine (Fq.order_s n (decide (z < 0)) m z.natAbs hm (by omega) w).mono ?_
  rintro e w' ⟨rfl, g⟩
  exact ⟨_, rfl, rkS_eq n _ m _ hm (Sg.abs_pw z hz) (fun c => by have := of_decide_eq_true c; omega), g⟩
set_option maxRecDepth 20000 in
set_option maxHeartbeats 1000000 in
theorem shValidtt_ (a b c d : Nat) (h : ∀ w : World, Calls Try.prog 8 #[.agg #[.float .f32 a, .float .f32 b]] w fun e w' => e = .returned (.agg #[.float .f32 c, .float .f32 d]) ∧ Kp w w') (h1 : ∀ w : World, Calls Try.prog 36 #[.float .f32 a, .float .f32 c] w fun e w' => ∃ c : Int, e = .returned (.int .i64 c) ∧ (c == 0) = true ∧ Kp w w') (h2 : ∀ w : World, Calls Try.prog 36 #[.float .f32 b, .float .f32 d] w fun e w' => ∃ c : Int, e = .returned (.int .i64 c) ∧ (c == 0) = true ∧ Kp w w') (w : World) : Calls Try.prog 11 #[.agg #[.float .f32 a, .float .f32 b]] w fun e w' => e = .returned (.bool true) ∧ Kp w w' := by
  go_enter Try.func11, Try.ntmps11
  go_upto_region 2 with (first | (go_at_call 8; refine (h _).mono ?_; rintro e w1 ⟨rfl, g1⟩; have k1 : Kp w w1 := Kp.trans ((Kp.refl w).alloc _) g1; have x1 := Fq.H2.keep (Fq.H2.new w (.float .f32 a) (.float .f32 b) 28) g1))
  have xx := Fq.H2.past x1 #[.float .f32 c, .float .f32 d] 28
  have yy := Fq.H2.new w1 (.float .f32 c) (.float .f32 d) 28
  have k1b := k1.alloc (.cells #[.float .f32 c, .float .f32 d] 28)
  generalize hW : w1.alloc (.cells #[.float .f32 c, .float .f32 d] 28) = W at xx yy k1b ⊢
  generalize w1.heap.size = bb at yy ⊢
  clear hW x1 k1 g1 h
  obtain ⟨X0, X1, X2, X3⟩ := id xx
  obtain ⟨Y0, Y1, Y2, Y3⟩ := id yy
  go_wp2_with (first | (go_at_call_of 36 (Value.float .f32 a); refine (h1 _).mono ?_; rintro e w2 ⟨c1, rfl, e1, g2⟩; have k2 := Kp.trans k1b g2; obtain ⟨x0, x1, x2, x3⟩ := Fq.H2.keep xx g2; obtain ⟨y0, y1, y2, y3⟩ := Fq.H2.keep yy g2) | (go_at_call_of 36 (Value.float .f32 b); refine (h2 _).mono ?_; rintro e w3 ⟨c2, rfl, e2, g3⟩; have k3 := Kp.trans k2 g3))
  exact bodyPost_ret (v := .bool true) (by simp [results, Try.results11, go_sem]) rfl ⟨rfl, k3⟩
set_option maxRecDepth 20000 in
set_option maxHeartbeats 1000000 in
theorem shValidtf_ (a b c d : Nat) (h : ∀ w : World, Calls Try.prog 8 #[.agg #[.float .f32 a, .float .f32 b]] w fun e w' => e = .returned (.agg #[.float .f32 c, .float .f32 d]) ∧ Kp w w') (h1 : ∀ w : World, Calls Try.prog 36 #[.float .f32 a, .float .f32 c] w fun e w' => ∃ c : Int, e = .returned (.int .i64 c) ∧ (c == 0) = true ∧ Kp w w') (h2 : ∀ w : World, Calls Try.prog 36 #[.float .f32 b, .float .f32 d] w fun e w' => ∃ c : Int, e = .returned (.int .i64 c) ∧ (c == 0) = false ∧ Kp w w') (w : World) : Calls Try.prog 11 #[.agg #[.float .f32 a, .float .f32 b]] w fun e w' => e = .returned (.bool false) ∧ Kp w w' := by
  go_enter Try.func11, Try.ntmps11
  go_upto_region 2 with (first | (go_at_call 8; refine (h _).mono ?_; rintro e w1 ⟨rfl, g1⟩; have k1 : Kp w w1 := Kp.trans ((Kp.refl w).alloc _) g1; have x1 := Fq.H2.keep (Fq.H2.new w (.float .f32 a) (.float .f32 b) 28) g1))
  have xx := Fq.H2.past x1 #[.float .f32 c, .float .f32 d] 28
  have yy := Fq.H2.new w1 (.float .f32 c) (.float .f32 d) 28
  have k1b := k1.alloc (.cells #[.float .f32 c, .float .f32 d] 28)
  generalize hW : w1.alloc (.cells #[.float .f32 c, .float .f32 d] 28) = W at xx yy k1b ⊢
  generalize w1.heap.size = bb at yy ⊢
  clear hW x1 k1 g1 h
  obtain ⟨X0, X1, X2, X3⟩ := id xx
  obtain ⟨Y0, Y1, Y2, Y3⟩ := id yy
  go_wp2_with (first | (go_at_call_of 36 (Value.float .f32 a); refine (h1 _).mono ?_; rintro e w2 ⟨c1, rfl, e1, g2⟩; have k2 := Kp.trans k1b g2; obtain ⟨x0, x1, x2, x3⟩ := Fq.H2.keep xx g2; obtain ⟨y0, y1, y2, y3⟩ := Fq.H2.keep yy g2) | (go_at_call_of 36 (Value.float .f32 b); refine (h2 _).mono ?_; rintro e w3 ⟨c2, rfl, e2, g3⟩; have k3 := Kp.trans k2 g3))
  exact bodyPost_ret (v := .bool false) (by simp [results, Try.results11, go_sem]) rfl ⟨rfl, k3⟩
set_option maxRecDepth 20000 in
set_option maxHeartbeats 1000000 in
theorem shValidffX_ (a b c d : Nat) (h : ∀ w : World, Calls Try.prog 8 #[.agg #[.float .f32 a, .float .f32 b]] w fun e w' => e = .returned (.agg #[.float .f32 c, .float .f32 d]) ∧ Kp w w') (h1 : ∀ w : World, Calls Try.prog 36 #[.float .f32 a, .float .f32 c] w fun e w' => ∃ c : Int, e = .returned (.int .i64 c) ∧ (c == 0) = false ∧ Kp w w') (w : World) : Calls Try.prog 11 #[.agg #[.float .f32 a, .float .f32 b]] w fun e w' => e = .returned (.bool false) ∧ Kp w w' := by
  go_enter Try.func11, Try.ntmps11
  go_upto_region 2 with (first | (go_at_call 8; refine (h _).mono ?_; rintro e w1 ⟨rfl, g1⟩; have k1 : Kp w w1 := Kp.trans ((Kp.refl w).alloc _) g1; have x1 := Fq.H2.keep (Fq.H2.new w (.float .f32 a) (.float .f32 b) 28) g1))
  have xx := Fq.H2.past x1 #[.float .f32 c, .float .f32 d] 28
  have yy := Fq.H2.new w1 (.float .f32 c) (.float .f32 d) 28
  have k1b := k1.alloc (.cells #[.float .f32 c, .float .f32 d] 28)
  generalize hW : w1.alloc (.cells #[.float .f32 c, .float .f32 d] 28) = W at xx yy k1b ⊢
  generalize w1.heap.size = bb at yy ⊢
  clear hW x1 k1 g1 h
  obtain ⟨X0, X1, X2, X3⟩ := id xx
  obtain ⟨Y0, Y1, Y2, Y3⟩ := id yy
  go_wp2_with (first | (go_at_call_of 36 (Value.float .f32 a); refine (h1 _).mono ?_; rintro e w2 ⟨c1, rfl, e1, g2⟩; have k2 := Kp.trans k1b g2; obtain ⟨x0, x1, x2, x3⟩ := Fq.H2.keep xx g2; obtain ⟨y0, y1, y2, y3⟩ := Fq.H2.keep yy g2))
  exact bodyPost_ret (v := .bool false) (by simp [results, Try.results11, go_sem]) rfl ⟨rfl, k2⟩
theorem shValid_ (a b : Nat) (L H : Int) (r : Sg.Rd a b L H) (w : World) : Calls Try.prog 11 #[.agg #[.float .f32 a, .float .f32 b]] w fun e w' => e = .returned (.bool (decide (a = Sg.pw L ∧ b = Sg.pw H))) ∧ Kp w w' := by
  have h := shRead_ a b L H r
  have h1 := shOrder_ a L r.1 r.vd.lo
  have h2 := shOrder_ b H r.2.1 r.vd.hi
  by_cases c1 : a = Sg.pw L <;> by_cases c2 : b = Sg.pw H
  · rw [decide_eq_true c1] at h1; rw [decide_eq_true c2] at h2; rw [decide_eq_true ⟨c1, c2⟩]
    exact shValidtt_ a b _ _ h h1 h2 w
  · rw [decide_eq_true c1] at h1; rw [decide_eq_false c2] at h2; rw [decide_eq_false (fun x => c2 x.2)]
    exact shValidtf_ a b _ _ h h1 h2 w
  · rw [decide_eq_false c1] at h1; rw [decide_eq_false (fun x => c1 x.1)]
    exact shValidffX_ a b _ _ h h1 w
  · rw [decide_eq_false c1] at h1; rw [decide_eq_false (fun x => c1 x.1)]
    exact shValidffX_ a b _ _ h h1 w
end Go.Proofs.Ytjkbapnndoldgaa
