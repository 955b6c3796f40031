import Derived.Test.YteedfmghgkmofaaGreatDoorKEKF
import Derived.Test.YteedfmghgkmofaaGreatDoorKTOp
import Derived.Test.YteedfmghgkmofaaGreatDoorKTOu
import Derived.Test.YteedfmghgkmofaaGreatDoorKU4x
namespace Go.Proofs.YteedfmghgkmofaaGreatDoor
open Go.RowKit

def St (w : World) (b : Nat) (V : Int) (k : Nat) (s : Int) : Prop := ∃ ws, Rep ws V ∧ Sb w b ws k s
theorem St.kp {w w' : World} {b : Nat} {V : Int} {k : Nat} {s : Int} (h : St w b V k s) (g : Kp w w') : St w' b V k s := by
  obtain ⟨ws, h1, h2⟩ := h; exact ⟨ws, h1, h2.kp g⟩
theorem St.kb {w w' : World} {b c : Nat} {V : Int} {k : Nat} {s : Int} (h : St w b V k s) (g : Kb c w w') (hne : b ≠ c) : St w' b V k s := by
  obtain ⟨ws, h1, h2⟩ := h; exact ⟨ws, h1, h2.kb g hne⟩
theorem St.lt {w : World} {b : Nat} {V : Int} {k : Nat} {s : Int} (h : St w b V k s) : b < w.heap.size := by
  obtain ⟨ws, h1, h2⟩ := h; exact h2.2.lt
def xV (X K : Nat) : Int := if X % 9223372036854775808 < 9218868437227405312 then tV (decide (9223372036854775808 ≤ X)) (X % 9223372036854775808) K else 0
def xS (X : Nat) : Int := tS (decide (9223372036854775808 ≤ X)) (X % 9223372036854775808)
theorem wD_parts (n : Bool) (m : Nat) (hm : m < 9223372036854775808) : Fq.wD n m % 9223372036854775808 = m ∧ decide (9223372036854775808 ≤ Fq.wD n m) = n := by
  unfold Fq.wD
  cases n
  · simp; omega
  · simp; omega
theorem stadd_ (X K : Nat) (hK : K = 1074) (hX : X < 18446744073709551616) (b : Nat) (V : Int) (k : Nat) (s : Int) (hk : k < 4611686018427387904) (w : World) (h : St w b V k s) : Calls Tryz.prog 17 #[.pointer (some ⟨b, 0, none⟩), .float .f64 X] w fun e w' => (∃ v, e = .returned v) ∧ St w' b (V + xV X K) (k + 1) (jn s (xS X)) ∧ Kb b w w' := by
  obtain ⟨ws, h1, h2⟩ := h
  obtain ⟨n, m, hm, rfl⟩ := Fq.exD X hX
  obtain ⟨p1, p2⟩ := wD_parts n m hm
  have e1 : (k + 1) % 18446744073709551616 = k + 1 := Nat.mod_eq_of_lt (by omega)
  have e2 : ∀ S : Int, grS (k + 1) S = S := fun S => by unfold grS; rw [if_neg (by omega)]
  unfold xV xS
  rw [p1, p2]
  by_cases c : m < 9218868437227405312
  · rw [if_pos c, fin0 n m c]
    refine (add_ n m K hK c b ws V h1 k s w h2).mono ?_
    rintro e w' ⟨us, hv, hS, hR, g⟩
    rw [e1, e2] at hS
    exact ⟨hv, ⟨us, hR, hS⟩, g⟩
  · rw [if_neg c, Int.add_zero]
    refine (addX_ n m (by omega) hm b ws k s w h2).mono ?_
    rintro e w' ⟨hv, hS, g⟩
    rw [e1, e2] at hS
    exact ⟨hv, ⟨ws, h1, hS⟩, g⟩
theorem xV_le (X K : Nat) (hK : K = 1074) : (xV X K).natAbs ≤ tb K := by
  unfold xV
  by_cases c : X % 9223372036854775808 < 9218868437227405312
  · rw [if_pos c]; exact tV_le _ _ K hK c
  · rw [if_neg c]; simp

def rdW (d V s : Int) : Nat := if s = 0 then fmaW d V else limW s
theorem stround_ (d : Int) (hd1 : -9223372036854775808 ≤ d) (hd2 : d < 9223372036854775808) (b : Nat) (V : Int) (k : Nat) (s : Int) (hb : V.natAbs < wh) (w : World) (h : St w b V k s) (hT : Tab w) (hQ : Fq.Tab w) : Calls Tryz.prog 10 #[.pointer (some ⟨b, 0, none⟩), .int .i64 d] w fun e w' => e = .returned (.float .f64 (rdW d V s)) ∧ Kp w w' := by
  obtain ⟨ws, h1, h2⟩ := h
  unfold rdW
  by_cases c : s = 0
  · rw [if_pos c]; subst c; exact roundF_ d hd1 hd2 b ws V h1 hb k w h2 hT hQ
  · rw [if_neg c]; exact roundX_ d b ws k s c w h2
theorem St.zero (w : World) : St (w.alloc (.cells (wc (List.replicate 67 0) ++ #[.int .u64 0, .int .i64 0]) 54)) w.heap.size 0 0 0 := ⟨_, Rep.zero, Sb.zero w⟩

theorem splitA_ (n : Bool) (m : Nat) (hm : m < 9223372036854775808) : ∃ (a : Bool) (c e : Int), ∀ w : World, Calls Tryz.prog 53 #[.float .f64 (Fq.wD n m)] w fun r w' => r = .returned (.tuple #[.bool a, .int .u64 c, .int .i64 e, .bool (decide (m < 9218868437227405312))]) ∧ Kp w w' := by
  by_cases c : m < 9218868437227405312
  · rw [decide_eq_true c]; exact ⟨_, _, _, fun w => Fq.split_d n m c w⟩
  · rw [decide_eq_false c]; exact ⟨_, _, _, fun w => Fq.splitx_d n m (by omega) hm w⟩
set_option maxRecDepth 20000 in
set_option maxHeartbeats 1000000 in
theorem mulN_ (X1 X2 : Nat) (a1 a2 : Bool) (c1 e1 c2 e2 : Int) (ok1 ok2 : Bool) (b : Nat) (ws : List Nat) (k : Nat) (s : Int) (hsp1 : ∀ w : World, Calls Tryz.prog 53 #[.float .f64 X1] w fun r w' => r = .returned (.tuple #[.bool a1, .int .u64 c1, .int .i64 e1, .bool ok1]) ∧ Kp w w') (hsp2 : ∀ w : World, Calls Tryz.prog 53 #[.float .f64 X2] w fun r w' => r = .returned (.tuple #[.bool a2, .int .u64 c2, .int .i64 e2, .bool ok2]) ∧ Kp w w') (hok : ok1 = false ∨ (ok1 = true ∧ ok2 = false)) (hnan : ∀ w : World, ∃ r, 9218868437227405312 < r % 9223372036854775808 ∧ r < 18446744073709551616 ∧ (binOp .mul 27 (.float .f64 X1) (.float .f64 X2)).run Tryz.prog w = .ok (.float .f64 r) w.drew) (w : World) (hS : Sb w b ws k s) : Calls Tryz.prog 15 #[.pointer (some ⟨b, 0, none⟩), .float .f64 X1, .float .f64 X2] w fun e w' => (∃ v, e = .returned v) ∧ Sb w' b ws ((k + 1) % 18446744073709551616) (grS ((k + 1) % 18446744073709551616) (jn s 2)) ∧ Kb b w w' := by
  have kA : Kb b w w := Kb.refl _ _
  rcases hok with rfl | ⟨rfl, rfl⟩
  · go_enter Tryz.func15, Tryz.ntmps15
    go_wp2_with (first | (go_at_call_of 53 (Value.float FloatKind.f64 X1); refine (hsp1 _).mono ?_; rintro e w1 ⟨rfl, g1⟩; replace hS := hS.kp g1; replace kA := kA.trans (Kb.of (g := b) g1)) | (go_at_call_of 53 (Value.float FloatKind.f64 X2); refine (hsp2 _).mono ?_; rintro e w2 ⟨rfl, g2⟩; replace hS := hS.kp g2; replace kA := kA.trans (Kb.of (g := b) g2); obtain ⟨r, hr1, hr2, hrun⟩ := hnan w2; obtain ⟨n9, m9, hm9, rfl⟩ := Fq.exD r hr2; have hadd := addX_ n9 m9 (by have := (wD_parts n9 m9 hm9).1; omega) hm9 b ws k s w2.drew (hS.kp ((Kp.refl _).drew)); rw [show tS n9 m9 = 2 from by unfold tS; rw [if_pos (by have := (wD_parts n9 m9 hm9).1; omega)]] at hadd; have kA := kA.drew) | (go_at_call 17; refine hadd.mono ?_; rintro e w3 ⟨⟨v3, rfl⟩, hZ, k3⟩))
    first | exact bodyPost_ret (v := .tuple #[]) (by kernel_rfl) rfl ⟨⟨_, rfl⟩, hZ, kA.trans k3⟩ | exact bodyPost_ret (v := .tuple #[]) (by simp [results, Tryz.results15, go_sem]) rfl ⟨⟨_, rfl⟩, hZ, kA.trans k3⟩
  · go_enter Tryz.func15, Tryz.ntmps15
    go_wp2_with (first | (go_at_call_of 53 (Value.float FloatKind.f64 X1); refine (hsp1 _).mono ?_; rintro e w1 ⟨rfl, g1⟩; replace hS := hS.kp g1; replace kA := kA.trans (Kb.of (g := b) g1)) | (go_at_call_of 53 (Value.float FloatKind.f64 X2); refine (hsp2 _).mono ?_; rintro e w2 ⟨rfl, g2⟩; replace hS := hS.kp g2; replace kA := kA.trans (Kb.of (g := b) g2); obtain ⟨r, hr1, hr2, hrun⟩ := hnan w2; obtain ⟨n9, m9, hm9, rfl⟩ := Fq.exD r hr2; have hadd := addX_ n9 m9 (by have := (wD_parts n9 m9 hm9).1; omega) hm9 b ws k s w2.drew (hS.kp ((Kp.refl _).drew)); rw [show tS n9 m9 = 2 from by unfold tS; rw [if_pos (by have := (wD_parts n9 m9 hm9).1; omega)]] at hadd; have kA := kA.drew) | (go_at_call 17; refine hadd.mono ?_; rintro e w3 ⟨⟨v3, rfl⟩, hZ, k3⟩))
    first | exact bodyPost_ret (v := .tuple #[]) (by kernel_rfl) rfl ⟨⟨_, rfl⟩, hZ, kA.trans k3⟩ | exact bodyPost_ret (v := .tuple #[]) (by simp [results, Tryz.results15, go_sem]) rfl ⟨⟨_, rfl⟩, hZ, kA.trans k3⟩
set_option maxRecDepth 20000 in
set_option maxHeartbeats 1000000 in
theorem mulI_ (X1 X2 : Nat) (a1 a2 : Bool) (c1 e1 c2 e2 : Int) (ok1 ok2 : Bool) (b : Nat) (ws : List Nat) (k : Nat) (s : Int) (hsp1 : ∀ w : World, Calls Tryz.prog 53 #[.float .f64 X1] w fun r w' => r = .returned (.tuple #[.bool a1, .int .u64 c1, .int .i64 e1, .bool ok1]) ∧ Kp w w') (hsp2 : ∀ w : World, Calls Tryz.prog 53 #[.float .f64 X2] w fun r w' => r = .returned (.tuple #[.bool a2, .int .u64 c2, .int .i64 e2, .bool ok2]) ∧ Kp w w') (hok : ok1 = false ∨ (ok1 = true ∧ ok2 = false)) (R : Nat) (S9 : Int) (hinf : ∀ w : World, (binOp .mul 27 (.float .f64 X1) (.float .f64 X2)).run Tryz.prog w = .ok (.float .f64 R) w) (hadd0 : ∀ w : World, Sb w b ws k s → Calls Tryz.prog 17 #[.pointer (some ⟨b, 0, none⟩), .float .f64 R] w fun e w' => (∃ v, e = .returned v) ∧ Sb w' b ws ((k + 1) % 18446744073709551616) (grS ((k + 1) % 18446744073709551616) (jn s S9)) ∧ Kb b w w') (w : World) (hS : Sb w b ws k s) : Calls Tryz.prog 15 #[.pointer (some ⟨b, 0, none⟩), .float .f64 X1, .float .f64 X2] w fun e w' => (∃ v, e = .returned v) ∧ Sb w' b ws ((k + 1) % 18446744073709551616) (grS ((k + 1) % 18446744073709551616) (jn s S9)) ∧ Kb b w w' := by
  have kA : Kb b w w := Kb.refl _ _
  rcases hok with rfl | ⟨rfl, rfl⟩
  · go_enter Tryz.func15, Tryz.ntmps15
    go_wp2_with (first | (go_at_call_of 53 (Value.float FloatKind.f64 X1); refine (hsp1 _).mono ?_; rintro e w1 ⟨rfl, g1⟩; replace hS := hS.kp g1; replace kA := kA.trans (Kb.of (g := b) g1)) | (go_at_call_of 53 (Value.float FloatKind.f64 X2); refine (hsp2 _).mono ?_; rintro e w2 ⟨rfl, g2⟩; replace hS := hS.kp g2; replace kA := kA.trans (Kb.of (g := b) g2); have hrun := hinf w2; have hadd := hadd0 w2 hS) | (go_at_call 17; refine hadd.mono ?_; rintro e w3 ⟨⟨v3, rfl⟩, hZ, k3⟩))
    first | exact bodyPost_ret (v := .tuple #[]) (by kernel_rfl) rfl ⟨⟨_, rfl⟩, hZ, kA.trans k3⟩ | exact bodyPost_ret (v := .tuple #[]) (by simp [results, Tryz.results15, go_sem]) rfl ⟨⟨_, rfl⟩, hZ, kA.trans k3⟩
  · go_enter Tryz.func15, Tryz.ntmps15
    go_wp2_with (first | (go_at_call_of 53 (Value.float FloatKind.f64 X1); refine (hsp1 _).mono ?_; rintro e w1 ⟨rfl, g1⟩; replace hS := hS.kp g1; replace kA := kA.trans (Kb.of (g := b) g1)) | (go_at_call_of 53 (Value.float FloatKind.f64 X2); refine (hsp2 _).mono ?_; rintro e w2 ⟨rfl, g2⟩; replace hS := hS.kp g2; replace kA := kA.trans (Kb.of (g := b) g2); have hrun := hinf w2; have hadd := hadd0 w2 hS) | (go_at_call 17; refine hadd.mono ?_; rintro e w3 ⟨⟨v3, rfl⟩, hZ, k3⟩))
    first | exact bodyPost_ret (v := .tuple #[]) (by kernel_rfl) rfl ⟨⟨_, rfl⟩, hZ, kA.trans k3⟩ | exact bodyPost_ret (v := .tuple #[]) (by simp [results, Tryz.results15, go_sem]) rfl ⟨⟨_, rfl⟩, hZ, kA.trans k3⟩

def yV (X Y : Nat) : Int := if X % 9223372036854775808 < 9218868437227405312 ∧ Y % 9223372036854775808 < 9218868437227405312 then Iv (decide (9223372036854775808 ≤ X)) (X % 9223372036854775808) * Iv (decide (9223372036854775808 ≤ Y)) (Y % 9223372036854775808) else 0
def yS (X Y : Nat) : Int := if X % 9223372036854775808 < 9218868437227405312 ∧ Y % 9223372036854775808 < 9218868437227405312 then 0 else if 9218868437227405312 < X % 9223372036854775808 ∨ 9218868437227405312 < Y % 9223372036854775808 ∨ (X % 9223372036854775808 = 9218868437227405312 ∧ Y % 9223372036854775808 = 0) ∨ (X % 9223372036854775808 = 0 ∧ Y % 9223372036854775808 = 9218868437227405312) then 2 else (if (decide (9223372036854775808 ≤ X) ^^ decide (9223372036854775808 ≤ Y)) then -1 else 1)
theorem stmul_ (X Y : Nat) (hX : X < 18446744073709551616) (hY : Y < 18446744073709551616) (b : Nat) (V : Int) (k : Nat) (s : Int) (hk : k < 4611686018427387904) (w : World) (h : St w b V k s) : Calls Tryz.prog 15 #[.pointer (some ⟨b, 0, none⟩), .float .f64 X, .float .f64 Y] w fun e w' => (∃ v, e = .returned v) ∧ St w' b (V + yV X Y) (k + 1) (jn s (yS X Y)) ∧ Kb b w w' := by
  obtain ⟨ws, h1, h2⟩ := h
  obtain ⟨n, m, hm, rfl⟩ := Fq.exD X hX
  obtain ⟨n', m', hm', rfl⟩ := Fq.exD Y hY
  obtain ⟨p1, p2⟩ := wD_parts n m hm
  obtain ⟨q1, q2⟩ := wD_parts n' m' hm'
  have e1 : (k + 1) % 18446744073709551616 = k + 1 := Nat.mod_eq_of_lt (by omega)
  have e2 : ∀ S : Int, grS (k + 1) S = S := fun S => by unfold grS; rw [if_neg (by omega)]
  unfold yV yS
  rw [p1, p2, q1, q2]
  by_cases c : m < 9218868437227405312 ∧ m' < 9218868437227405312
  · rw [if_pos c, if_pos c]
    refine (mul_ n n' m m' c.1 c.2 b ws V h1 k s w h2).mono ?_
    rintro e w' ⟨us, hv, hS, hR, g⟩
    rw [e1, e2] at hS
    exact ⟨hv, ⟨us, hR, hS⟩, g⟩
  · rw [if_neg c, if_neg c, Int.add_zero]
    obtain ⟨a1, c1, d1, hs1⟩ := splitA_ n m hm
    obtain ⟨a2, c2, d2, hs2⟩ := splitA_ n' m' hm'
    have hok : decide (m < 9218868437227405312) = false ∨ (decide (m < 9218868437227405312) = true ∧ decide (m' < 9218868437227405312) = false) := by
      by_cases z : m < 9218868437227405312
      · exact Or.inr ⟨decide_eq_true z, decide_eq_false (fun h => c ⟨z, h⟩)⟩
      · exact Or.inl (decide_eq_false z)
    by_cases cb : 9218868437227405312 < m ∨ 9218868437227405312 < m' ∨ (m = 9218868437227405312 ∧ m' = 0) ∨ (m = 0 ∧ m' = 9218868437227405312)
    · rw [if_pos cb]
      refine (mulN_ _ _ a1 a2 c1 d1 c2 d2 _ _ b ws k s hs1 hs2 hok (fun w => run_nan_mul _ _ (mul_bad n n' m m' hm hm' cb) w) w h2).mono ?_
      rintro e w' ⟨hv, hS, g⟩
      rw [e1, e2] at hS
      exact ⟨hv, ⟨ws, h1, hS⟩, g⟩
    · rw [if_neg cb]
      have hmi := mul_inf n n' m m' cb c
      have hts : tS (n ^^ n') 9218868437227405312 = if (n ^^ n') then -1 else 1 := by unfold tS; rw [if_neg (by decide), if_pos rfl]
      refine (mulI_ _ _ a1 a2 c1 d1 c2 d2 _ _ b ws k s hs1 hs2 hok (Fq.wD (n ^^ n') 9218868437227405312) _ (fun w => run_float_arith w .mul 27 .f64 _ _ _ hmi) (fun w h => by have := addX_ (n ^^ n') 9218868437227405312 (Nat.le_refl _) (by decide) b ws k s w h; rw [hts] at this; exact this) w h2).mono ?_
      rintro e w' ⟨hv, hS, g⟩
      rw [e1, e2] at hS
      exact ⟨hv, ⟨ws, h1, hS⟩, g⟩
theorem yV_le (X Y K : Nat) (hK : K = 1074) : (yV X Y).natAbs ≤ tb K := by
  unfold yV
  by_cases c : X % 9223372036854775808 < 9218868437227405312 ∧ Y % 9223372036854775808 < 9218868437227405312
  · rw [if_pos c]; exact pV_le _ _ _ _ K hK c.1 c.2
  · rw [if_neg c]; simp
def Dv (a j E U : Nat) : Prop := j ≤ E ∧ (a % 2 = 1 ∨ j = 0) ∧ a * 2 ^ (E - j) = U
def Dy (base : Nat) (w : World) (s1 : Bool) (p1 : Option Addr) (l1 c1 : Nat) (q1 : Option Addr) (k1 d1 : Nat) (V : Int) (E : Nat) : Prop := ∃ a j, Own w base (.slice p1 l1 c1) (dig a) ∧ Own w base (.slice q1 k1 d1) (dig (2 ^ j)) ∧ Dv a j E V.natAbs ∧ (V ≠ 0 → s1 = decide (V < 0))
theorem Dy.kp {base : Nat} {w w' : World} {s1 : Bool} {p1 : Option Addr} {l1 c1 : Nat} {q1 : Option Addr} {k1 d1 : Nat} {V : Int} {E : Nat} (h : Dy base w s1 p1 l1 c1 q1 k1 d1 V E) (g : Kp w w') : Dy base w' s1 p1 l1 c1 q1 k1 d1 V E := by
  obtain ⟨a, j, h1, h2, h3⟩ := h
  exact ⟨a, j, h1.kp g, h2.kp g, h3⟩
theorem Dy.mono {base b2 : Nat} {w : World} {s1 : Bool} {p1 : Option Addr} {l1 c1 : Nat} {q1 : Option Addr} {k1 d1 : Nat} {V : Int} {E : Nat} (h : Dy base w s1 p1 l1 c1 q1 k1 d1 V E) (g : b2 ≤ base) : Dy b2 w s1 p1 l1 c1 q1 k1 d1 V E := by
  obtain ⟨a, j, h1, h2, h3⟩ := h
  exact ⟨a, j, h1.mono g, h2.mono g, h3⟩
theorem Dv.lt {a j E U : Nat} (h : Dv a j E U) (B : Nat) (hU : U < 2 ^ B) : a < 2 ^ B := by
  obtain ⟨h1, h2, h3⟩ := h
  have := Nat.two_pow_pos (E - j)
  have : a * 1 ≤ a * 2 ^ (E - j) := Nat.mul_le_mul_left a this
  omega

theorem Dv.up {a j E U : Nat} (h : Dv a j E U) (t : Nat) : Dv a j (E + t) (U * 2 ^ t) := by
  obtain ⟨h1, h2, h3⟩ := h
  refine ⟨by omega, h2, ?_⟩
  rw [← h3, Nat.mul_assoc, ← Nat.pow_add]; congr 2; omega
theorem Dy.up {base : Nat} {w : World} {s1 : Bool} {p1 : Option Addr} {l1 c1 : Nat} {q1 : Option Addr} {k1 d1 : Nat} {V : Int} {E : Nat} (h : Dy base w s1 p1 l1 c1 q1 k1 d1 V E) (t : Nat) : Dy base w s1 p1 l1 c1 q1 k1 d1 (V * ((2 ^ t : Nat) : Int)) (E + t) := by
  obtain ⟨a, j, h1, h2, h3, h4⟩ := h
  have hp := Nat.two_pow_pos t
  refine ⟨a, j, h1, h2, ?_, fun h => ?_⟩
  · rw [Int.natAbs_mul, Int.natAbs_natCast]; exact h3.up t
  · have hv : V ≠ 0 := fun z => h (by rw [z, Int.zero_mul])
    rw [h4 hv]
    have := (sgn_mul V ((2 ^ t : Nat) : Int) (by omega)).1
    simp only [decide_eq_decide]; exact this

def H7c (w : World) (b : Nat) (v0 v1 v2 v3 v4 v5 v6 : Value) : Prop := w.cell? ⟨b, 0, none⟩ = some v0 ∧ w.cell? ⟨b, 1, none⟩ = some v1 ∧ w.cell? ⟨b, 2, none⟩ = some v2 ∧ w.cell? ⟨b, 3, none⟩ = some v3 ∧ w.cell? ⟨b, 4, none⟩ = some v4 ∧ w.cell? ⟨b, 5, none⟩ = some v5 ∧ w.cell? ⟨b, 6, none⟩ = some v6 ∧ w.frozen? ⟨b, 0, none⟩ = false ∧ w.frozen? ⟨b, 1, none⟩ = false ∧ w.frozen? ⟨b, 2, none⟩ = false ∧ w.frozen? ⟨b, 3, none⟩ = false ∧ w.frozen? ⟨b, 4, none⟩ = false ∧ w.frozen? ⟨b, 5, none⟩ = false ∧ w.frozen? ⟨b, 6, none⟩ = false
theorem H7c.keep {W w : World} {b : Nat} {v0 v1 v2 v3 v4 v5 v6 : Value} (h : H7c W b v0 v1 v2 v3 v4 v5 v6) (g : Kp W w) : H7c w b v0 v1 v2 v3 v4 v5 v6 := by
  obtain ⟨h0, h1, h2, h3, h4, h5, h6, h7, h8, h9, h10, h11, h12, h13⟩ := h
  exact ⟨kkeep g h0, kkeep g h1, kkeep g h2, kkeep g h3, kkeep g h4, kkeep g h5, kkeep g h6, (kfro g (cell_lt h0)).trans h7, (kfro g (cell_lt h0)).trans h8, (kfro g (cell_lt h0)).trans h9, (kfro g (cell_lt h0)).trans h10, (kfro g (cell_lt h0)).trans h11, (kfro g (cell_lt h0)).trans h12, (kfro g (cell_lt h0)).trans h13⟩
theorem H7c.new (w : World) (v0 v1 v2 v3 v4 v5 v6 : Value) (t : TypeId) : H7c (w.alloc (.cells #[v0, v1, v2, v3, v4, v5, v6] t)) w.heap.size v0 v1 v2 v3 v4 v5 v6 := by
  unfold H7c; simp [go_sem]
theorem H7c.lt {w : World} {b : Nat} {v0 v1 v2 v3 v4 v5 v6 : Value} (h : H7c w b v0 v1 v2 v3 v4 v5 v6) : b < w.heap.size := cell_lt h.1
set_option maxRecDepth 20000 in
set_option maxHeartbeats 1000000 in
theorem H7c.put {w : World} {b : Nat} {v0 v1 v2 v3 v4 v5 v6 : Value} (h : H7c w b v0 v1 v2 v3 v4 v5 v6) (u0 u1 u2 u3 u4 u5 u6 : Value) : H7c ((((((((w.setCell ⟨b, 0, none⟩ u0).setCell ⟨b, 1, none⟩ u1).setCell ⟨b, 2, none⟩ u2).setCell ⟨b, 3, none⟩ u3).setCell ⟨b, 4, none⟩ u4).setCell ⟨b, 5, none⟩ u5).setCell ⟨b, 6, none⟩ u6)) b u0 u1 u2 u3 u4 u5 u6 := by
  obtain ⟨h0, h1, h2, h3, h4, h5, h6, h7, h8, h9, h10, h11, h12, h13⟩ := h
  unfold H7c; simp [go_sem, h0, h1, h2, h3, h4, h5, h6, h7, h8, h9, h10, h11, h12, h13]
theorem Dy.set {base : Nat} {w : World} {s1 : Bool} {p1 : Option Addr} {l1 c1 : Nat} {q1 : Option Addr} {k1 d1 : Nat} {V : Int} {E : Nat} (h : Dy base w s1 p1 l1 c1 q1 k1 d1 V E) {x : Addr} (hx : x.block < base) (u : Value) : Dy base (w.setCell x u) s1 p1 l1 c1 q1 k1 d1 V E := by
  obtain ⟨a, j, h1, h2, h3⟩ := h
  exact ⟨a, j, Own.setOther h1 hx u, Own.setOther h2 hx u, h3⟩

set_option linter.unusedVariables false
def NB (p q : Option Addr) (b : Nat) : Prop := (∀ a, p = some a → a.block ≠ b) ∧ (∀ a, q = some a → a.block ≠ b)

def Rz (G : Nat → Prop) (w : World) (v : Value) (V : Int) (K T : Nat) (P M N : Bool) : Prop := ∃ (s1 : Bool) (p1 : Option Addr) (l1 c1 : Nat) (q1 : Option Addr) (k1 d1 : Nat), v = .agg #[.bool s1, .slice p1 l1 c1, .slice q1 k1 d1, .bool P, .bool M, .bool N, .int .u64 (T : Int)] ∧ Dy 0 w s1 p1 l1 c1 q1 k1 d1 V (K + K) ∧ ∀ g, G g → NB p1 q1 g
theorem Rz.kp {G : Nat → Prop} {w w' : World} {v : Value} {V : Int} {K T : Nat} {P M N : Bool} (h : Rz G w v V K T P M N) (g : Kp w w') : Rz G w' v V K T P M N := by
  obtain ⟨s1, p1, l1, c1, q1, k1, d1, rfl, h, hn⟩ := h
  exact ⟨s1, p1, l1, c1, q1, k1, d1, rfl, h.kp g, hn⟩
theorem tS_cases (n : Bool) (m : Nat) : tS n m = 0 ∨ tS n m = 1 ∨ tS n m = -1 ∨ tS n m = 2 := by
  unfold tS
  by_cases a : 9218868437227405312 < m
  · rw [if_pos a]; omega
  · rw [if_neg a]
    by_cases b : m = 9218868437227405312
    · rw [if_pos b]; cases n <;> simp
    · rw [if_neg b]; omega
theorem yS_cases (X Y : Nat) : yS X Y = 0 ∨ yS X Y = 1 ∨ yS X Y = -1 ∨ yS X Y = 2 := by
  unfold yS
  by_cases a : X % 9223372036854775808 < 9218868437227405312 ∧ Y % 9223372036854775808 < 9218868437227405312
  · rw [if_pos a]; omega
  · rw [if_neg a]
    by_cases b : 9218868437227405312 < X % 9223372036854775808 ∨ 9218868437227405312 < Y % 9223372036854775808 ∨ (X % 9223372036854775808 = 9218868437227405312 ∧ Y % 9223372036854775808 = 0) ∨ (X % 9223372036854775808 = 0 ∧ Y % 9223372036854775808 = 9218868437227405312)
    · rw [if_pos b]; omega
    · rw [if_neg b]
      by_cases c : (decide (9223372036854775808 ≤ X) ^^ decide (9223372036854775808 ≤ Y)) = true
      · rw [if_pos c]; omega
      · rw [if_neg c]; omega

def tX (x : Nat) : Nat := x ^^^ 9223372036854775808
theorem xor_top (x : Nat) (h : x < 18446744073709551616) : bits .xor .u64 (x : Int) 9223372036854775808 = ((tX x : Nat) : Int) := bits_xor_u64_nat x 9223372036854775808 h (by decide)
set_option maxRecDepth 20000 in
set_option maxHeartbeats 400000 in
theorem bitsNaN4_ (X : Nat) (h : (FloatKind.f64.format.order X X != some .eq) = true) (w : World) : Calls Tryz.prog 9 #[.float .f64 X] w fun e w' => e = .returned (.int .u64 (9221120237041090561 : Int)) ∧ w' = w := by
  go_enter Tryz.func9, Tryz.ntmps9
  go_wp2
  exact bodyPost_ret (v := .int .u64 9221120237041090561) (by simp [results, Tryz.results9, go_sem]) rfl ⟨rfl, rfl⟩
end Go.Proofs.YteedfmghgkmofaaGreatDoor
