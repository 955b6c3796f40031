import Derived.Test.YtnjlcfpkhgmjeaaGreatDoorKTOt
namespace Go.Proofs.YtnjlcfpkhgmjeaaGreatDoor
open Go.RowKit

theorem splitA_ (n : Bool) (m : Nat) (hm : m < 9223372036854775808) : ∃ (a : Bool) (c e : Int), ∀ w : World, Calls Tryz.prog 41 #[.float .f64 (Fq.wD n m)] w fun r w' => r = .returned (.tuple #[.bool a, .int .u64 c, .int .i64 e, .bool (decide (m < 9218868437227405312))]) ∧ Kp w w' := by
  by_cases c : m < 9218868437227405312
  · rw [decide_eq_true c]; exact ⟨_, _, _, fun w => Fq.split_d n m c w⟩
  · rw [decide_eq_false c]; exact ⟨_, _, _, fun w => Fq.splitx_d n m (by omega) hm w⟩
set_option maxRecDepth 20000 in
set_option maxHeartbeats 1000000 in
theorem mulN_ (X1 X2 : Nat) (a1 a2 : Bool) (c1 e1 c2 e2 : Int) (ok1 ok2 : Bool) (b : Nat) (ws : List Nat) (k : Nat) (s : Int) (hsp1 : ∀ w : World, Calls Tryz.prog 41 #[.float .f64 X1] w fun r w' => r = .returned (.tuple #[.bool a1, .int .u64 c1, .int .i64 e1, .bool ok1]) ∧ Kp w w') (hsp2 : ∀ w : World, Calls Tryz.prog 41 #[.float .f64 X2] w fun r w' => r = .returned (.tuple #[.bool a2, .int .u64 c2, .int .i64 e2, .bool ok2]) ∧ Kp w w') (hok : ok1 = false ∨ (ok1 = true ∧ ok2 = false)) (hnan : ∀ w : World, ∃ r, 9218868437227405312 < r % 9223372036854775808 ∧ r < 18446744073709551616 ∧ (binOp .mul 24 (.float .f64 X1) (.float .f64 X2)).run Tryz.prog w = .ok (.float .f64 r) w.drew) (w : World) (hS : Sb w b ws k s) : Calls Tryz.prog 26 #[.pointer (some ⟨b, 0, none⟩), .float .f64 X1, .float .f64 X2] w fun e w' => (∃ v, e = .returned v) ∧ Sb w' b ws ((k + 1) % 18446744073709551616) (grS ((k + 1) % 18446744073709551616) (jn s 2)) ∧ Kb b w w' := by
  have kA : Kb b w w := Kb.refl _ _
  rcases hok with rfl | ⟨rfl, rfl⟩
  · go_enter Tryz.func26, Tryz.ntmps26
    go_wp2_with (first | (go_at_call_of 41 (Value.float FloatKind.f64 X1); refine (hsp1 _).mono ?_; rintro e w1 ⟨rfl, g1⟩; replace hS := hS.kp g1; replace kA := kA.trans (Kb.of (g := b) g1)) | (go_at_call_of 41 (Value.float FloatKind.f64 X2); refine (hsp2 _).mono ?_; rintro e w2 ⟨rfl, g2⟩; replace hS := hS.kp g2; replace kA := kA.trans (Kb.of (g := b) g2); obtain ⟨r, hr1, hr2, hrun⟩ := hnan w2; obtain ⟨n9, m9, hm9, rfl⟩ := Fq.exD r hr2; have hadd := addX_ n9 m9 (by have := (wD_parts n9 m9 hm9).1; omega) hm9 b ws k s w2.drew (hS.kp ((Kp.refl _).drew)); rw [show tS n9 m9 = 2 from by unfold tS; rw [if_pos (by have := (wD_parts n9 m9 hm9).1; omega)]] at hadd; have kA := kA.drew) | (go_at_call 15; refine hadd.mono ?_; rintro e w3 ⟨⟨v3, rfl⟩, hZ, k3⟩))
    first | exact bodyPost_ret (v := .tuple #[]) (by kernel_rfl) rfl ⟨⟨_, rfl⟩, hZ, kA.trans k3⟩ | exact bodyPost_ret (v := .tuple #[]) (by simp [results, Tryz.results26, go_sem]) rfl ⟨⟨_, rfl⟩, hZ, kA.trans k3⟩
  · go_enter Tryz.func26, Tryz.ntmps26
    go_wp2_with (first | (go_at_call_of 41 (Value.float FloatKind.f64 X1); refine (hsp1 _).mono ?_; rintro e w1 ⟨rfl, g1⟩; replace hS := hS.kp g1; replace kA := kA.trans (Kb.of (g := b) g1)) | (go_at_call_of 41 (Value.float FloatKind.f64 X2); refine (hsp2 _).mono ?_; rintro e w2 ⟨rfl, g2⟩; replace hS := hS.kp g2; replace kA := kA.trans (Kb.of (g := b) g2); obtain ⟨r, hr1, hr2, hrun⟩ := hnan w2; obtain ⟨n9, m9, hm9, rfl⟩ := Fq.exD r hr2; have hadd := addX_ n9 m9 (by have := (wD_parts n9 m9 hm9).1; omega) hm9 b ws k s w2.drew (hS.kp ((Kp.refl _).drew)); rw [show tS n9 m9 = 2 from by unfold tS; rw [if_pos (by have := (wD_parts n9 m9 hm9).1; omega)]] at hadd; have kA := kA.drew) | (go_at_call 15; refine hadd.mono ?_; rintro e w3 ⟨⟨v3, rfl⟩, hZ, k3⟩))
    first | exact bodyPost_ret (v := .tuple #[]) (by kernel_rfl) rfl ⟨⟨_, rfl⟩, hZ, kA.trans k3⟩ | exact bodyPost_ret (v := .tuple #[]) (by simp [results, Tryz.results26, go_sem]) rfl ⟨⟨_, rfl⟩, hZ, kA.trans k3⟩
set_option maxRecDepth 20000 in
set_option maxHeartbeats 1000000 in
theorem mulI_ (X1 X2 : Nat) (a1 a2 : Bool) (c1 e1 c2 e2 : Int) (ok1 ok2 : Bool) (b : Nat) (ws : List Nat) (k : Nat) (s : Int) (hsp1 : ∀ w : World, Calls Tryz.prog 41 #[.float .f64 X1] w fun r w' => r = .returned (.tuple #[.bool a1, .int .u64 c1, .int .i64 e1, .bool ok1]) ∧ Kp w w') (hsp2 : ∀ w : World, Calls Tryz.prog 41 #[.float .f64 X2] w fun r w' => r = .returned (.tuple #[.bool a2, .int .u64 c2, .int .i64 e2, .bool ok2]) ∧ Kp w w') (hok : ok1 = false ∨ (ok1 = true ∧ ok2 = false)) (R : Nat) (S9 : Int) (hinf : ∀ w : World, (binOp .mul 24 (.float .f64 X1) (.float .f64 X2)).run Tryz.prog w = .ok (.float .f64 R) w) (hadd0 : ∀ w : World, Sb w b ws k s → Calls Tryz.prog 15 #[.pointer (some ⟨b, 0, none⟩), .float .f64 R] w fun e w' => (∃ v, e = .returned v) ∧ Sb w' b ws ((k + 1) % 18446744073709551616) (grS ((k + 1) % 18446744073709551616) (jn s S9)) ∧ Kb b w w') (w : World) (hS : Sb w b ws k s) : Calls Tryz.prog 26 #[.pointer (some ⟨b, 0, none⟩), .float .f64 X1, .float .f64 X2] w fun e w' => (∃ v, e = .returned v) ∧ Sb w' b ws ((k + 1) % 18446744073709551616) (grS ((k + 1) % 18446744073709551616) (jn s S9)) ∧ Kb b w w' := by
  have kA : Kb b w w := Kb.refl _ _
  rcases hok with rfl | ⟨rfl, rfl⟩
  · go_enter Tryz.func26, Tryz.ntmps26
    go_wp2_with (first | (go_at_call_of 41 (Value.float FloatKind.f64 X1); refine (hsp1 _).mono ?_; rintro e w1 ⟨rfl, g1⟩; replace hS := hS.kp g1; replace kA := kA.trans (Kb.of (g := b) g1)) | (go_at_call_of 41 (Value.float FloatKind.f64 X2); refine (hsp2 _).mono ?_; rintro e w2 ⟨rfl, g2⟩; replace hS := hS.kp g2; replace kA := kA.trans (Kb.of (g := b) g2); have hrun := hinf w2; have hadd := hadd0 w2 hS) | (go_at_call 15; refine hadd.mono ?_; rintro e w3 ⟨⟨v3, rfl⟩, hZ, k3⟩))
    first | exact bodyPost_ret (v := .tuple #[]) (by kernel_rfl) rfl ⟨⟨_, rfl⟩, hZ, kA.trans k3⟩ | exact bodyPost_ret (v := .tuple #[]) (by simp [results, Tryz.results26, go_sem]) rfl ⟨⟨_, rfl⟩, hZ, kA.trans k3⟩
  · go_enter Tryz.func26, Tryz.ntmps26
    go_wp2_with (first | (go_at_call_of 41 (Value.float FloatKind.f64 X1); refine (hsp1 _).mono ?_; rintro e w1 ⟨rfl, g1⟩; replace hS := hS.kp g1; replace kA := kA.trans (Kb.of (g := b) g1)) | (go_at_call_of 41 (Value.float FloatKind.f64 X2); refine (hsp2 _).mono ?_; rintro e w2 ⟨rfl, g2⟩; replace hS := hS.kp g2; replace kA := kA.trans (Kb.of (g := b) g2); have hrun := hinf w2; have hadd := hadd0 w2 hS) | (go_at_call 15; refine hadd.mono ?_; rintro e w3 ⟨⟨v3, rfl⟩, hZ, k3⟩))
    first | exact bodyPost_ret (v := .tuple #[]) (by kernel_rfl) rfl ⟨⟨_, rfl⟩, hZ, kA.trans k3⟩ | exact bodyPost_ret (v := .tuple #[]) (by simp [results, Tryz.results26, go_sem]) rfl ⟨⟨_, rfl⟩, hZ, kA.trans k3⟩

def yV (X Y : Nat) : Int := if X % 9223372036854775808 < 9218868437227405312 ∧ Y % 9223372036854775808 < 9218868437227405312 then Iv (decide (9223372036854775808 ≤ X)) (X % 9223372036854775808) * Iv (decide (9223372036854775808 ≤ Y)) (Y % 9223372036854775808) else 0
def yS (X Y : Nat) : Int := if X % 9223372036854775808 < 9218868437227405312 ∧ Y % 9223372036854775808 < 9218868437227405312 then 0 else if 9218868437227405312 < X % 9223372036854775808 ∨ 9218868437227405312 < Y % 9223372036854775808 ∨ (X % 9223372036854775808 = 9218868437227405312 ∧ Y % 9223372036854775808 = 0) ∨ (X % 9223372036854775808 = 0 ∧ Y % 9223372036854775808 = 9218868437227405312) then 2 else (if (decide (9223372036854775808 ≤ X) ^^ decide (9223372036854775808 ≤ Y)) then -1 else 1)
theorem stmul_ (X Y : Nat) (hX : X < 18446744073709551616) (hY : Y < 18446744073709551616) (b : Nat) (V : Int) (k : Nat) (s : Int) (hk : k < 4611686018427387904) (w : World) (h : St w b V k s) : Calls Tryz.prog 26 #[.pointer (some ⟨b, 0, none⟩), .float .f64 X, .float .f64 Y] w fun e w' => (∃ v, e = .returned v) ∧ St w' b (V + yV X Y) (k + 1) (jn s (yS X Y)) ∧ Kb b w w' := by
  obtain ⟨ws, h1, h2⟩ := h
  obtain ⟨n, m, hm, rfl⟩ := Fq.exD X hX
  obtain ⟨n', m', hm', rfl⟩ := Fq.exD Y hY
  obtain ⟨p1, p2⟩ := wD_parts n m hm
  obtain ⟨q1, q2⟩ := wD_parts n' m' hm'
  have e1 : (k + 1) % 18446744073709551616 = k + 1 := Nat.mod_eq_of_lt (by omega)
  have e2 : ∀ S : Int, grS (k + 1) S = S := fun S => by unfold grS; rw [if_neg (by omega)]
  unfold yV yS
  rw [p1, p2, q1, q2]
  by_cases c : m < 9218868437227405312 ∧ m' < 9218868437227405312
  · rw [if_pos c, if_pos c]
    refine (mul_ n n' m m' c.1 c.2 b ws V h1 k s w h2).mono ?_
    rintro e w' ⟨us, hv, hS, hR, g⟩
    rw [e1, e2] at hS
    exact ⟨hv, ⟨us, hR, hS⟩, g⟩
  · rw [if_neg c, if_neg c, Int.add_zero]
    obtain ⟨a1, c1, d1, hs1⟩ := splitA_ n m hm
    obtain ⟨a2, c2, d2, hs2⟩ := splitA_ n' m' hm'
    have hok : decide (m < 9218868437227405312) = false ∨ (decide (m < 9218868437227405312) = true ∧ decide (m' < 9218868437227405312) = false) := by
      by_cases z : m < 9218868437227405312
      · exact Or.inr ⟨decide_eq_true z, decide_eq_false (fun h => c ⟨z, h⟩)⟩
      · exact Or.inl (decide_eq_false z)
    by_cases cb : 9218868437227405312 < m ∨ 9218868437227405312 < m' ∨ (m = 9218868437227405312 ∧ m' = 0) ∨ (m = 0 ∧ m' = 9218868437227405312)
    · rw [if_pos cb]
      refine (mulN_ _ _ a1 a2 c1 d1 c2 d2 _ _ b ws k s hs1 hs2 hok (fun w => run_nan_mul _ _ (mul_bad n n' m m' hm hm' cb) w) w h2).mono ?_
      rintro e w' ⟨hv, hS, g⟩
      rw [e1, e2] at hS
      exact ⟨hv, ⟨ws, h1, hS⟩, g⟩
    · rw [if_neg cb]
      have hmi := mul_inf n n' m m' cb c
      have hts : tS (n ^^ n') 9218868437227405312 = if (n ^^ n') then -1 else 1 := by unfold tS; rw [if_neg (by decide), if_pos rfl]
      refine (mulI_ _ _ a1 a2 c1 d1 c2 d2 _ _ b ws k s hs1 hs2 hok (Fq.wD (n ^^ n') 9218868437227405312) _ (fun w => run_float_arith w .mul 24 .f64 _ _ _ hmi) (fun w h => by have := addX_ (n ^^ n') 9218868437227405312 (Nat.le_refl _) (by decide) b ws k s w h; rw [hts] at this; exact this) w h2).mono ?_
      rintro e w' ⟨hv, hS, g⟩
      rw [e1, e2] at hS
      exact ⟨hv, ⟨ws, h1, hS⟩, g⟩
theorem yV_le (X Y K : Nat) (hK : K = 1074) : (yV X Y).natAbs ≤ tb K := by
  unfold yV
  by_cases c : X % 9223372036854775808 < 9218868437227405312 ∧ Y % 9223372036854775808 < 9218868437227405312
  · rw [if_pos c]; exact pV_le _ _ _ _ K hK c.1 c.2
  · rw [if_neg c]; simp

def dotV : List Nat → List Nat → Int
  | x :: xs, y :: ys => yV x y + dotV xs ys
  | _, _ => 0
theorem dotV_take (xs : List Nat) : ∀ (ys : List Nat) (i : Nat), xs.length = ys.length → i < xs.length → dotV (xs.take (i + 1)) (ys.take (i + 1)) = dotV (xs.take i) (ys.take i) + yV (xs.getD i 0) (ys.getD i 0) := by
  induction xs with
  | nil => intro ys i _ h; simp at h
  | cons x xs ih =>
    intro ys i hl h
    cases ys with
    | nil => simp at hl
    | cons y ys =>
      cases i with
      | zero => simp [dotV]
      | succ i =>
        have e := ih ys i (by simpa using hl) (by simpa using h)
        simp only [List.take_succ_cons, dotV, List.getD_cons_succ] at e ⊢
        rw [e]; omega
def dotS (xs ys : List Nat) : Int := (xs.zip ys).foldl (fun s q => jn s (yS q.1 q.2)) 0
theorem zip_take9 : ∀ (n : Nat) (xs ys : List Nat), (xs.take n).zip (ys.take n) = (xs.zip ys).take n
  | 0, _, _ => by simp
  | _ + 1, [], _ => by simp
  | _ + 1, _ :: _, [] => by simp
  | n + 1, x :: xs, y :: ys => by simp [zip_take9 n xs ys]
theorem dotS_take (xs ys : List Nat) (i : Nat) (hl : xs.length = ys.length) (h : i < xs.length) : dotS (xs.take (i + 1)) (ys.take (i + 1)) = jn (dotS (xs.take i) (ys.take i)) (yS (xs.getD i 0) (ys.getD i 0)) := by
  unfold dotS
  rw [zip_take9, zip_take9, List.take_add_one, List.foldl_append]
  have h2 : i < ys.length := by omega
  have hz : (xs.zip ys)[i]? = some (xs[i], ys[i]) := by rw [List.getElem?_eq_getElem (by simp; omega), List.getElem_zip]
  simp [List.getD, h, h2, hz]
theorem dotV_le (K : Nat) (hK : K = 1074) (xs : List Nat) : ∀ ys : List Nat, (dotV xs ys).natAbs ≤ xs.length * tb K := by
  induction xs with
  | nil => intro ys; simp [dotV]
  | cons x xs ih =>
    intro ys
    cases ys with
    | nil => simp [dotV]
    | cons y ys =>
      have := yV_le x y K hK
      have h2 := ih ys
      simp only [dotV, List.length_cons, Nat.add_mul, Nat.one_mul]
      generalize xs.length * tb K = P at *
      generalize tb K = Q at *
      omega
theorem mem_lt {xs : List Nat} (hx : ∀ x ∈ xs, x < 18446744073709551616) (i : Nat) (h : i < xs.length) : xs.getD i 0 < 18446744073709551616 := hx _ (by rw [List.getD_eq_getElem?_getD, List.getElem?_eq_getElem h]; exact List.getElem_mem _)
set_option maxRecDepth 20000 in
set_option maxHeartbeats 400000 in
theorem fin4_ (X : Nat) (hX : X < 18446744073709551616) (w : World) : Calls Tryz.prog 25 #[.int .u64 (X : Int)] w fun e w' => e = .returned (.bool (decide (X % 9223372036854775808 < 9218868437227405312))) ∧ w' = w := by
  have f1 : (X : Int) / 4503599627370496 = ((X / 4503599627370496 : Nat) : Int) := by omega
  have f2 : bits .and .u64 ((X / 4503599627370496 : Nat) : Int) 2047 = ((X / 4503599627370496 % 2048 : Nat) : Int) := by
    have h := bits_and_u64_nat (X / 4503599627370496) 2047 (by omega) (by decide)
    have e : (X / 4503599627370496) &&& 2047 = X / 4503599627370496 % 2048 := Nat.and_two_pow_sub_one_eq_mod _ 11
    rw [e] at h
    exact h
  have f3 : ((((X / 4503599627370496 % 2048 : Nat) : Int)) != 2047) = decide (X % 9223372036854775808 < 9218868437227405312) := by
    rw [Bool.eq_iff_iff, bne_iff_ne, decide_eq_true_eq]; omega
  generalize ((X / 4503599627370496 % 2048 : Nat) : Int) = Y at *
  generalize decide (X % 9223372036854775808 < 9218868437227405312) = V at *
  generalize ((X / 4503599627370496 : Nat) : Int) = Z at *
  clear hX
  go_enter Tryz.func25, Tryz.ntmps25
  go_wp2
  exact bodyPost_ret (v := .bool V) (by simp [results, Tryz.results25, go_sem] <;> simpa using f3) rfl ⟨rfl, rfl⟩

def nmP (X : Nat) : Nat := if X % 9223372036854775808 < 9218868437227405312 then X else X &&& 9227875636482146303
theorem nmP_fin (X : Nat) : nmP X % 9223372036854775808 < 9218868437227405312 := by
  unfold nmP
  by_cases c : X % 9223372036854775808 < 9218868437227405312
  · rw [if_pos c]; exact c
  · rw [if_neg c]
    have e : (X &&& 9227875636482146303) % 2 ^ 63 = X &&& 4503599627370495 := by
      rw [← Nat.and_two_pow_sub_one_eq_mod, Nat.and_assoc]; rfl
    have h : X &&& 4503599627370495 ≤ 4503599627370495 := Nat.and_le_right
    rw [show (2 : Nat) ^ 63 = 9223372036854775808 from by decide] at e
    omega
theorem nmP_lt (X : Nat) (h : X < 18446744073709551616) : nmP X < 18446744073709551616 := by
  unfold nmP
  by_cases c : X % 9223372036854775808 < 9218868437227405312
  · rw [if_pos c]; exact h
  · rw [if_neg c]
    have : X &&& 9227875636482146303 ≤ X := Nat.and_le_left
    omega
set_option maxRecDepth 20000 in
set_option maxHeartbeats 400000 in
theorem number4_ (X : Nat) (hX : X < 18446744073709551616) (w : World) : Calls Tryz.prog 6 #[.int .u64 (X : Int)] w fun e w' => e = .returned (.int .u64 ((nmP X : Nat) : Int)) ∧ w' = w := by
  have hf := fin4_ X hX
  unfold nmP
  by_cases c : X % 9223372036854775808 < 9218868437227405312
  · rw [if_pos c]
    rw [decide_eq_true c] at hf
    clear c hX
    go_enter Tryz.func6, Tryz.ntmps6
    go_wp2_with (first | (go_at_call 25; refine (hf _).mono ?_; rintro e w' ⟨rfl, hw'⟩; obtain rfl := hw'.symm; clear hw'))
    exact bodyPost_ret (v := .int .u64 (X : Int)) (by simp [results, Tryz.results6, go_sem]) rfl ⟨rfl, rfl⟩
  · rw [if_neg c]
    rw [decide_eq_false c] at hf
    have h1 := u64_andNot_nat X 9218868437227405312 hX (by decide)
    rw [show 18446744073709551615 - 9218868437227405312 = 9227875636482146303 from rfl, show (((9218868437227405312 : Nat) : Int)) = 9218868437227405312 from rfl] at h1
    generalize X &&& 9227875636482146303 = Z at *
    clear c hX
    go_enter Tryz.func6, Tryz.ntmps6
    go_wp2_with (first | (go_at_call 25; refine (hf _).mono ?_; rintro e w' ⟨rfl, hw'⟩; obtain rfl := hw'.symm; clear hw'))
    exact bodyPost_ret (v := .int .u64 (Z : Int)) (by simp [results, Tryz.results6, go_sem]) rfl ⟨rfl, rfl⟩

def tX (x : Nat) : Nat := x ^^^ 9223372036854775808
theorem xor_top (x : Nat) (h : x < 18446744073709551616) : bits .xor .u64 (x : Int) 9223372036854775808 = ((tX x : Nat) : Int) := bits_xor_u64_nat x 9223372036854775808 h (by decide)
set_option maxRecDepth 20000 in
set_option maxHeartbeats 400000 in
theorem bitsNaN4_ (X : Nat) (h : (FloatKind.f64.format.order X X != some .eq) = true) (w : World) : Calls Tryz.prog 8 #[.float .f64 X] w fun e w' => e = .returned (.int .u64 (9221120237041090561 : Int)) ∧ w' = w := by
  go_enter Tryz.func8, Tryz.ntmps8
  go_wp2
  exact bodyPost_ret (v := .int .u64 9221120237041090561) (by simp [results, Tryz.results8, go_sem]) rfl ⟨rfl, rfl⟩
theorem lo0 : (FloatKind.f64.format.order 0 0 != some .eq) = false := by decide +kernel
theorem loI : (FloatKind.f64.format.order 9218868437227405312 9218868437227405312 != some .eq) = false := by decide +kernel
theorem loM : (FloatKind.f64.format.order 18442240474082181120 18442240474082181120 != some .eq) = false := by decide +kernel
theorem loN : (FloatKind.f64.format.order 9221120237041090561 9221120237041090561 != some .eq) = true := by decide +kernel
theorem ordfma4 (d V : Int) : (FloatKind.f64.format.order (fmaW d V) (fmaW d V) != some .eq) = false := by
  unfold fmaW
  by_cases c : V = 0
  · rw [if_pos c]; exact lo0
  · rw [if_neg c]; exact ordselfD _ _ (fin_leD _ _)
theorem bitsR4_ (d V s : Int) (w : World) : Calls Tryz.prog 8 #[.float .f64 (rdW d V s)] w fun e w' => e = .returned (.int .u64 ((rdW d V s : Nat) : Int)) ∧ w' = w := by
  unfold rdW
  by_cases c : s = 0
  · rw [if_pos c]; exact bits4_ _ (ordfma4 d V) w
  · rw [if_neg c]
    unfold limW
    by_cases c2 : s = 2
    · rw [if_pos c2]; exact bitsNaN4_ _ loN w
    · rw [if_neg c2]
      by_cases c3 : 0 ≤ s
      · rw [if_pos c3]; exact bits4_ _ loI w
      · rw [if_neg c3]; exact bits4_ _ loM w
set_option maxRecDepth 20000 in
set_option maxHeartbeats 1000000 in
theorem dot_ (d : Int) (hd1 : -9223372036854775808 ≤ d) (hd2 : d < 9223372036854775808) (K : Nat) (hK : K = 1074) (p p2 : Option Addr) (c c2 : Nat) (xs ys : List Nat) (hx : ∀ x ∈ xs, x < 18446744073709551616) (hy : ∀ x ∈ ys, x < 18446744073709551616) (hl : xs.length ≤ 1048576) (hxy : xs.length = ys.length) (w : World) (ha : ArrF w p xs) (ha2 : ArrF w p2 ys) (hT : Tab w) (hQ : Fq.Tab w) : Calls Tryz.prog 7 #[.int .i64 d, .slice p xs.length c, .slice p2 ys.length c2] w fun e w' => e = .returned (.tuple #[.float .f64 (rdW d (dotV xs ys) (dotS xs ys)), .int .i64 0]) ∧ Kp w w' := by
  rw [← hxy]
  have hz := zeroS
  have hst := St.zero w
  have hs : (wc (List.replicate 67 0) ++ #[Value.int .u64 0, Value.int .i64 0]).size = 69 := by rw [Array.size_append, wc_size, List.length_replicate]; rfl
  generalize wc (List.replicate 67 0) ++ #[Value.int .u64 0, Value.int .i64 0] = Z at *
  have k1 : Kp w (w.alloc (.cells Z 55)) := (Kp.refl w).alloc _
  obtain ⟨N, hN⟩ : ∃ N, N = xs.length := ⟨_, rfl⟩
  rw [← hN] at hl ⊢
  have HN : Hid (N = xs.length ∧ N ≤ 1048576 ∧ ArrF w p xs ∧ ArrF w p2 ys ∧ xs.length = ys.length) := ⟨hN, hl, ha, ha2, hxy⟩
  obtain ⟨g, hg⟩ : ∃ g, g = w.heap.size := ⟨_, rfl⟩
  have HG : Hid (g = w.heap.size) := hg
  rw [← hg] at hst
  clear hN hl ha ha2 hxy
  go_enter Tryz.func7, Tryz.ntmps7
  go_wp2
  rw [← hg]
  clear hz hg
  go_loopw [18] (fun ii wr => ∃ i : Nat, ii = .int .i64 (i : Int) ∧ i ≤ N ∧ St wr g (dotV (xs.take i) (ys.take i)) i (dotS (xs.take i) (ys.take i)) ∧ Kp w wr) (fun i _ => N - (intOf i).toNat)
  case atStart => exact ⟨0, rfl, Nat.zero_le _, by simpa [dotV, dotS] using hst, k1⟩
  case round =>
    clear hst k1
    obtain ⟨i, rfl, hi, hS, hk⟩ := hrel
    obtain ⟨hN, hl, ha, ha2, hxy⟩ := HN.out
    by_cases ci : i < N
    · have hxi := mem_lt hx i (by omega)
      have hyi := mem_lt hy i (by omega)
      rcases ha with ha | ⟨b, off, rfl, ha⟩
      · rw [ha] at hN; simp at hN; omega
      rcases ha2 with ha2 | ⟨b2, off2, rfl, ha2⟩
      · have h0 : xs.length = 0 := by rw [hxy, ha2]; rfl
        omega
      have e2 := kkeep hk (ha2 i (by omega))
      have e1 := kkeep hk (ha i (by omega))
      have had := stmul_ (xs.getD i 0) (ys.getD i 0) hxi hyi g _ i _ (by omega) wr hS
      rw [← dotV_take xs ys i hxy (by omega), ← dotS_take xs ys i hxy (by omega)] at had
      obtain ⟨X, hX⟩ : ∃ X, X = xs.getD i 0 := ⟨_, rfl⟩
      obtain ⟨Y, hY⟩ : ∃ Y, Y = ys.getD i 0 := ⟨_, rfl⟩
      rw [← hX, ← hY] at had
      rw [← hX] at e1
      rw [← hY] at e2
      clear hX hY
      have hz9 : w.heap.size ≤ g := by rw [HG.out]; exact Nat.le_refl _
      have j0 : (0 : Int) ≤ (i : Int) := by omega
      have j1 : (i : Int) < (N : Int) := by omega
      have j2 : i + 1 ≤ N := by omega
      have j3 : N - (i + 1) < N - i := by omega
      have j4 : i < 1048576 := by omega
      clear hN hl ha hi hxi hS hx ha2 hxy hyi hy
      go_wp2_with (first | (go_at_call 26; refine had.mono ?_; rintro e w1 ⟨⟨v1, rfl⟩, hS1, kb1⟩; have hk1 := kb1.kp hk hz9))
      exact ⟨⟨i + 1, by go_num, j2, hS1, hk1⟩, (show N - (i + 1) < N - i from j3)⟩
    · have hiN : i = N := by omega
      have hS : St wr g (dotV xs ys) N (dotS xs ys) := by rw [hiN, List.take_of_length_le (by omega), List.take_of_length_le (by omega)] at hS; exact hS
      have t1 : ¬ ((i : Int) < (N : Int)) := by omega
      have hle := dotV_le K hK xs ys
      have hrd := stround_ d hd1 hd2 g _ N _ (Nat.lt_of_le_of_lt hle (tb_wh K _ hK (by omega))) wr hS (hT.grown hk) (Fq.Tab.grown hQ hk)
      clear hN hl ha hi hiN ci hS hle hx hK ha2 hxy hy
      go_wp2_with (first | (go_at_call 18; refine hrd.mono ?_; rintro e w2 ⟨rfl, g2⟩))
      exact bodyPost_ret (v := .tuple #[.float .f64 (rdW d (dotV xs ys) (dotS xs ys)), .int .i64 0]) (by simp [results, Tryz.results7, go_sem]) rfl ⟨rfl, hk.trans g2⟩
end Go.Proofs.YtnjlcfpkhgmjeaaGreatDoor
