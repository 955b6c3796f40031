import Derived.Test.YtokhnokobkmmkaaGreatDoorKTLe
import Derived.WalkKit
import Derived.ProofKit
import Derived.RowKit3
import Derived.WalkSpells
import Derived.StillTactics
import Derived.Deep.QuietTactic
import Derived.BigQuiet
import Derived.Below
import Derived.Deep.WholeRow
import Derived.Deep.MidRow
import Derived.Laws.Externs
import Derived.Deep.Cut
import Derived.Deep.RegionWith
import Derived.Deep.RegionHeld3
import Derived.Laws.Bits64
import Derived.Lib.Zigzag
import Derived.Deep.OwnRows
import Derived.Laws.BitsAllLaws
import Derived.Laws.Slices
import Derived.Laws.Bits64b
import Derived.Laws.FloatArith
import Derived.Laws.MakeOwn
namespace Go.Proofs.YtokhnokobkmmkaaGreatDoor
open Go.RowKit
/-- what any pattern adds: its number, its state -/
def xV (X K : Nat) : Int := if X % 9223372036854775808 < 9218868437227405312 then tV (decide (9223372036854775808 ≤ X)) (X % 9223372036854775808) K else 0
theorem stadd_ (X K : Nat) (hK : K = 1074) (hX : X < 18446744073709551616) (b : Nat) (V : Int) (k : Nat) (s : Int) (hk : k < 4611686018427387904) (w : World) (h : St w b V k s) : Calls Tryz.prog 17 #[.pointer (some ⟨b, 0, none⟩), .float .f64 X] w fun e w' => (∃ v, e = .returned v) ∧ St w' b (V + xV X K) (k + 1) (jn s (xS X)) ∧ Kb b w w' := by
  obtain ⟨ws, h1, h2⟩ := h
  obtain ⟨n, m, hm, rfl⟩ := Fq.exD X hX
  obtain ⟨p1, p2⟩ := wD_parts n m hm
  have e1 : (k + 1) % 18446744073709551616 = k + 1 := Nat.mod_eq_of_lt (by omega)
  have e2 : ∀ S : Int, grS (k + 1) S = S := fun S => by unfold grS; rw [if_neg (by omega)]
  unfold xV xS
  rw [p1, p2]
  by_cases c : m < 9218868437227405312
  · rw [if_pos c, fin0 n m c]
    refine (add_ n m K hK c b ws V h1 k s w h2).mono ?_
    rintro e w' ⟨us, hv, hS, hR, g⟩
    rw [e1, e2] at hS
    exact ⟨hv, ⟨us, hR, hS⟩, g⟩
  · rw [if_neg c, Int.add_zero]
    refine (addX_ n m (by omega) hm b ws k s w h2).mono ?_
    rintro e w' ⟨hv, hS, g⟩
    rw [e1, e2] at hS
    exact ⟨hv, ⟨ws, h1, hS⟩, g⟩
theorem xV_le (X K : Nat) (hK : K = 1074) : (xV X K).natAbs ≤ tb K := by
  unfold xV
  by_cases c : X % 9223372036854775808 < 9218868437227405312
  · rw [if_pos c]; exact tV_le _ _ K hK c
  · rw [if_neg c]; simp
def sumV (K : Nat) : List Nat → Int
  | [] => 0
  | x :: xs => xV x K + sumV K xs
theorem sumV_take (K : Nat) (xs : List Nat) : ∀ i, i < xs.length → sumV K (xs.take (i + 1)) = sumV K (xs.take i) + xV (xs.getD i 0) K := by
  induction xs with
  | nil => intro i h; simp at h
  | cons x xs ih =>
    intro i h
    cases i with
    | zero => simp [sumV]
    | succ i =>
      have e := ih i (by simpa using h)
      simp only [List.take_succ_cons, sumV, List.getD_cons_succ] at e ⊢
      rw [e]; omega
theorem sumS_take (xs : List Nat) (i : Nat) (h : i < xs.length) : sumS (xs.take (i + 1)) = jn (sumS (xs.take i)) (xS (xs.getD i 0)) := by
  unfold sumS
  rw [List.take_add_one, List.foldl_append]
  simp [List.getD, h]
theorem sumV_le (K : Nat) (hK : K = 1074) (xs : List Nat) : (sumV K xs).natAbs ≤ xs.length * tb K := by
  induction xs with
  | nil => simp [sumV]
  | cons x xs ih =>
    have := xV_le x K hK
    simp only [sumV, List.length_cons, Nat.add_mul, Nat.one_mul]
    generalize xs.length * tb K = P at *
    generalize tb K = Q at *
    omega
end Go.Proofs.YtokhnokobkmmkaaGreatDoor
namespace Go.Proofs.YtokhnokobkmmkaaGreatDoor
open Go.RowKit
set_option maxRecDepth 20000 in
set_option maxHeartbeats 1000000 in
theorem total_ (d : Int) (hd1 : -9223372036854775808 ≤ d) (hd2 : d < 9223372036854775808) (K : Nat) (hK : K = 1074) (p : Option Addr) (c : Nat) (xs : List Nat) (hx : ∀ x ∈ xs, x < 18446744073709551616) (hl : xs.length ≤ 1048576) (w : World) (ha : ArrF w p xs) (hT : Tab w) (hQ : Fq.Tab w) : Calls Tryz.prog 33 #[.int .i64 d, .slice p xs.length c] w fun e w' => e = .returned (.float .f64 (rdW d (sumV K xs) (sumS xs))) ∧ Kp w w' := by
  have hz := zeroS
  have hst := St.zero w
  have hs : (wc (List.replicate 67 0) ++ #[Value.int .u64 0, Value.int .i64 0]).size = 69 := by rw [Array.size_append, wc_size, List.length_replicate]; rfl
  generalize wc (List.replicate 67 0) ++ #[Value.int .u64 0, Value.int .i64 0] = Z at *
  have k1 : Kp w (w.alloc (.cells Z 57)) := (Kp.refl w).alloc _
  obtain ⟨N, hN⟩ : ∃ N, N = xs.length := ⟨_, rfl⟩
  rw [← hN] at hl ⊢
  have HN : Hid (N = xs.length ∧ N ≤ 1048576 ∧ ArrF w p xs) := ⟨hN, hl, ha⟩
  obtain ⟨g, hg⟩ : ∃ g, g = w.heap.size := ⟨_, rfl⟩
  have HG : Hid (g = w.heap.size) := hg
  rw [← hg] at hst
  clear hN hl ha
  go_enter Tryz.func33, Tryz.ntmps33
  go_wp2
  rw [← hg]
  clear hz hg
  go_loopw [10] (fun ii wr => ∃ i : Nat, ii = .int .i64 (i : Int) ∧ i ≤ N ∧ St wr g (sumV K (xs.take i)) i (sumS (xs.take i)) ∧ Kp w wr) (fun i _ => N - (intOf i).toNat)
  case atStart => exact ⟨0, rfl, Nat.zero_le _, by simpa [sumV, sumS] using hst, k1⟩
  case round =>
    clear hst k1
    obtain ⟨i, rfl, hi, hS, hk⟩ := hrel
    obtain ⟨hN, hl, ha⟩ := HN.out
    by_cases ci : i < N
    · have hxi : xs.getD i 0 < 18446744073709551616 := hx _ (by rw [List.getD_eq_getElem?_getD, List.getElem?_eq_getElem (by omega)]; exact List.getElem_mem _)
      rcases ha with ha | ⟨b, off, rfl, ha⟩
      · rw [ha] at hN; simp at hN; omega
      have e1 := kkeep hk (ha i (by omega))
      have had := stadd_ (xs.getD i 0) K hK hxi g _ i _ (by omega) wr hS
      rw [← sumV_take K xs i (by omega), ← sumS_take xs i (by omega)] at had
      obtain ⟨X, hX⟩ : ∃ X, X = xs.getD i 0 := ⟨_, rfl⟩
      rw [← hX] at e1 had
      clear hX
      have hz9 : w.heap.size ≤ g := by rw [HG.out]; exact Nat.le_refl _
      have j0 : (0 : Int) ≤ (i : Int) := by omega
      have j1 : (i : Int) < (N : Int) := by omega
      have j2 : i + 1 ≤ N := by omega
      have j3 : N - (i + 1) < N - i := by omega
      have j4 : i < 1048576 := by omega
      clear hN hl ha hi hxi hS hx
      go_wp2_with (first | (go_at_call 17; refine had.mono ?_; rintro e w1 ⟨⟨v1, rfl⟩, hS1, kb1⟩; have hk1 := kb1.kp hk hz9))
      exact ⟨⟨i + 1, by go_num, j2, hS1, hk1⟩, (show N - (i + 1) < N - i from j3)⟩
    · have hiN : i = N := by omega
      have hS : St wr g (sumV K xs) N (sumS xs) := by rw [hiN, List.take_of_length_le (by first | omega | (simp; omega))] at hS; exact hS
      have t1 : ¬ ((i : Int) < (N : Int)) := by omega
      have hle := sumV_le K hK xs
      have hrd := stround_ d hd1 hd2 g _ N _ (Nat.lt_of_le_of_lt hle (tb_wh K _ hK (by first | omega | (simp; omega)))) wr hS (hT.grown hk) (Fq.Tab.grown hQ hk)
      clear hN hl ha hi hiN ci hS hle hx hK
      go_wp2_with (first | (go_at_call 22; refine hrd.mono ?_; rintro e w2 ⟨rfl, g2⟩))
      exact bodyPost_ret (v := .float .f64 (rdW d (sumV K xs) (sumS xs))) (by simp [results, Tryz.results33, go_sem]) rfl ⟨rfl, hk.trans g2⟩
end Go.Proofs.YtokhnokobkmmkaaGreatDoor
namespace Go.Proofs.YtokhnokobkmmkaaGreatDoor
open Go.RowKit
set_option maxRecDepth 20000 in
set_option maxHeartbeats 400000 in
theorem abs_ (n : Bool) (m : Nat) (hm : m < 9223372036854775808) (w : World) : Calls Tryz.prog 61 #[.float .f64 (Fq.wD n m)] w fun e w' => e = .returned (.float .f64 m) ∧ w' = w := by
  obtain ⟨X, hX⟩ : ∃ X, X = Fq.wD n m := ⟨_, rfl⟩
  have f1 := (noTop n m X hm hX).1
  rw [← hX]
  clear hX hm
  have h1 := Fq.fb64 X
  have h2 := Fq.ff64 m
  go_enter Tryz.func61, Tryz.ntmps61
  go_wp2
  exact bodyPost_ret (v := .float .f64 m) (by simp [results, Tryz.results61, go_sem]) rfl ⟨rfl, rfl⟩
end Go.Proofs.YtokhnokobkmmkaaGreatDoor
namespace Go.Proofs.YtokhnokobkmmkaaGreatDoor
open Go.RowKit
set_option maxRecDepth 20000 in
set_option maxHeartbeats 2000000 in
theorem radd4_ (n : Bool) (m K B : Nat) (hK : K = 1074) (hm : m < 9218868437227405312) (hB : B ≤ 60000) (s1 : Bool) (p1 : Option Addr) (l1 c1 : Nat) (q1 : Option Addr) (k1 d1 : Nat) (P M N : Bool) (T : Nat) (hT : T < 4611686018427387904) (V : Int) (hV : V.natAbs < 2 ^ B) (hV2 : (tV n m K).natAbs < 2 ^ B) (b1 : Nat) (w : World) (h1 : Dy b1 w s1 p1 l1 c1 q1 k1 d1 V (K + K)) : Calls Tryz.prog 32 #[.agg #[.bool s1, .slice p1 l1 c1, .slice q1 k1 d1, .bool P, .bool M, .bool N, .int .u64 (T : Int)], .int .u64 ((Fq.wD n m : Nat) : Int)] w fun e w' => ∃ (s3 : Bool) (p3 : Option Addr) (l3 c3 : Nat) (q3 : Option Addr) (k3 d3 : Nat), e = .returned (.agg #[.bool s3, .slice p3 l3 c3, .slice q3 k3 d3, .bool P, .bool M, .bool N, .int .u64 ((T + 1 : Nat) : Int)]) ∧ Dy w.heap.size w' s3 p3 l3 c3 q3 k3 d3 (V + tV n m K) (K + K) ∧ Kp w w' := by
  have hmo := more_ s1 p1 l1 c1 q1 k1 d1 P M N T 1 (by omega)
  have hin := isnan_ n m (by omega)
  have hii := isinf_ n m (by omega)
  rw [decide_eq_false (by omega)] at hin hii
  have hfb := dyfrom_ n m K hK hm
  have hra := fun (W : World) (s2 : Bool) (p2 : Option Addr) (l2 c2 : Nat) (q2 : Option Addr) (k2 d2 : Nat) (b2 : Nat) (g : Kp w W) (h2 : Dy b2 W s2 p2 l2 c2 q2 k2 d2 (Iv n m) K) => dyadd_ s1 p1 l1 c1 q1 k1 d1 s2 p2 l2 c2 q2 k2 d2 V (tV n m K) (K + K) B hB (by omega) hV hV2 b1 b2 W (h1.kp g) (h2.up K)
  rw [show (((1 : Nat) : Int)) = 1 from rfl] at hmo
  generalize ((Fq.wD n m : Nat) : Int) = X at *
  generalize tV n m K = TV at *
  generalize Iv n m = IV at *
  generalize ((T + 1 : Nat) : Int) = TT at *
  have h7 : H7c ((w.alloc (.cells #[.bool s1, .slice p1 l1 c1, .slice q1 k1 d1, .bool P, .bool M, .bool N, .int .u64 (T : Int)] 30)).alloc (.cells #[.bool false, .slice none 0 0, .slice none 0 0, .bool false, .bool false, .bool false, .int .u64 0] 30)) w.heap.size (.bool s1) (.slice p1 l1 c1) (.slice q1 k1 d1) (.bool P) (.bool M) (.bool N) (.int .u64 (T : Int)) := (H7c.new w (.bool s1) (.slice p1 l1 c1) (.slice q1 k1 d1) (.bool P) (.bool M) (.bool N) (.int .u64 (T : Int)) 30).keep ((Kp.refl _).alloc _)
  have h8 : H7c ((w.alloc (.cells #[.bool s1, .slice p1 l1 c1, .slice q1 k1 d1, .bool P, .bool M, .bool N, .int .u64 (T : Int)] 30)).alloc (.cells #[.bool false, .slice none 0 0, .slice none 0 0, .bool false, .bool false, .bool false, .int .u64 0] 30)) (w.heap.size + 1) (.bool false) (.slice none 0 0) (.slice none 0 0) (.bool false) (.bool false) (.bool false) (.int .u64 0) := by
    have := H7c.new (w.alloc (.cells #[.bool s1, .slice p1 l1 c1, .slice q1 k1 d1, .bool P, .bool M, .bool N, .int .u64 (T : Int)] 30)) (.bool false) (.slice none 0 0) (.slice none 0 0) (.bool false) (.bool false) (.bool false) (.int .u64 0) 30
    simpa using this
  have kw : Kp w ((w.alloc (.cells #[.bool s1, .slice p1 l1 c1, .slice q1 k1 d1, .bool P, .bool M, .bool N, .int .u64 (T : Int)] 30)).alloc (.cells #[.bool false, .slice none 0 0, .slice none 0 0, .bool false, .bool false, .bool false, .int .u64 0] 30)) := ((Kp.refl w).alloc _).alloc _
  have hb1 : w.heap.size ≤ w.heap.size := Nat.le_refl _
  clear hK hm hB hV hV2 h1 hT
  go_enter Tryz.func32, Tryz.ntmps32
  go_upto_region 1 with fail
  generalize ((w.alloc (.cells #[.bool s1, .slice p1 l1 c1, .slice q1 k1 d1, .bool P, .bool M, .bool N, .int .u64 (T : Int)] 30)).alloc (.cells #[.bool false, .slice none 0 0, .slice none 0 0, .bool false, .bool false, .bool false, .int .u64 0] 30)) = W0 at *
  generalize hb9 : w.heap.size = b at h7 h8 ⊢
  rw [hb9] at hb1
  have hbw : w.heap.size ≤ b := by rw [hb9]; exact hb1
  obtain ⟨r0, r1, r2, r3, r4, r5, r6, r7, r8, r9, r10, r11, r12, r13⟩ := id h7
  obtain ⟨t0, t1, t2, t3, t4, t5, t6, t7, t8, t9, t10, t11, t12, t13⟩ := id h8
  go_upto_region 2 with (first | (go_at_call 54; refine (hmo _).mono ?_; rintro e W1 ⟨rfl, g1⟩; replace h7 := h7.keep g1; replace h8 := h8.keep g1; replace kw := kw.trans g1; clear r0 r1 r2 r3 r4 r5 r6 r7 r8 r9 r10 r11 r12 r13 t0 t1 t2 t3 t4 t5 t6 t7 t8 t9 t10 t11 t12 t13; obtain ⟨r0, r1, r2, r3, r4, r5, r6, r7, r8, r9, r10, r11, r12, r13⟩ := id h7; obtain ⟨t0, t1, t2, t3, t4, t5, t6, t7, t8, t9, t10, t11, t12, t13⟩ := id h8))
  have q7 := H7c.put h7 (.bool s1) (.slice p1 l1 c1) (.slice q1 k1 d1) (.bool P) (.bool M) (.bool N) (.int .u64 TT)
  have q8 : H7c (((((((W1.setCell ⟨b, 0, none⟩ (.bool s1)).setCell ⟨b, 1, none⟩ (.slice p1 l1 c1)).setCell ⟨b, 2, none⟩ (.slice q1 k1 d1)).setCell ⟨b, 3, none⟩ (.bool P)).setCell ⟨b, 4, none⟩ (.bool M)).setCell ⟨b, 5, none⟩ (.bool N)).setCell ⟨b, 6, none⟩ (.int .u64 TT)) (b + 1) (.bool false) (.slice none 0 0) (.slice none 0 0) (.bool false) (.bool false) (.bool false) (.int .u64 0) := (H7c.far1 (H7c.far1 (H7c.far1 (H7c.far1 (H7c.far1 (H7c.far1 (H7c.far1 h8 ⟨b, 0, none⟩ (show b ≠ b + 1 by omega) _) ⟨b, 1, none⟩ (show b ≠ b + 1 by omega) _) ⟨b, 2, none⟩ (show b ≠ b + 1 by omega) _) ⟨b, 3, none⟩ (show b ≠ b + 1 by omega) _) ⟨b, 4, none⟩ (show b ≠ b + 1 by omega) _) ⟨b, 5, none⟩ (show b ≠ b + 1 by omega) _) ⟨b, 6, none⟩ (show b ≠ b + 1 by omega) _)
  have kq : Kp w (((((((W1.setCell ⟨b, 0, none⟩ (.bool s1)).setCell ⟨b, 1, none⟩ (.slice p1 l1 c1)).setCell ⟨b, 2, none⟩ (.slice q1 k1 d1)).setCell ⟨b, 3, none⟩ (.bool P)).setCell ⟨b, 4, none⟩ (.bool M)).setCell ⟨b, 5, none⟩ (.bool N)).setCell ⟨b, 6, none⟩ (.int .u64 TT)) := (((((((kw.setCell hbw _).setCell hbw _).setCell hbw _).setCell hbw _).setCell hbw _).setCell hbw _).setCell hbw _)
  generalize (((((((W1.setCell ⟨b, 0, none⟩ (.bool s1)).setCell ⟨b, 1, none⟩ (.slice p1 l1 c1)).setCell ⟨b, 2, none⟩ (.slice q1 k1 d1)).setCell ⟨b, 3, none⟩ (.bool P)).setCell ⟨b, 4, none⟩ (.bool M)).setCell ⟨b, 5, none⟩ (.bool N)).setCell ⟨b, 6, none⟩ (.int .u64 TT)) = W2 at q7 q8 kq ⊢
  clear h7 h8 kw r0 r1 r2 r3 r4 r5 r6 r7 r8 r9 r10 r11 r12 r13 t0 t1 t2 t3 t4 t5 t6 t7 t8 t9 t10 t11 t12 t13
  obtain ⟨r0, r1, r2, r3, r4, r5, r6, r7, r8, r9, r10, r11, r12, r13⟩ := id q7
  go_upto_region 10 with (first | (go_at_call 51; refine (hin _).mono ?_; rintro e w' ⟨rfl, hw'⟩; obtain rfl := hw'.symm; clear hw') | (go_at_call 59; refine (hii _).mono ?_; rintro e w' ⟨rfl, hw'⟩; obtain rfl := hw'.symm; clear hw'))
  have h7d : H7c W2.drew b (.bool s1) (.slice p1 l1 c1) (.slice q1 k1 d1) (.bool P) (.bool M) (.bool N) (.int .u64 TT) := q7
  have h8d : H7c W2.drew (b + 1) (.bool false) (.slice none 0 0) (.slice none 0 0) (.bool false) (.bool false) (.bool false) (.int .u64 0) := q8
  have kwd : Kp w W2.drew := kq.drew
  clear r0 r1 r2 r3 r4 r5 r6 r7 r8 r9 r10 r11 r12 r13 q7 q8 kq hin hii hmo
  obtain ⟨r0, r1, r2, r3, r4, r5, r6, r7, r8, r9, r10, r11, r12, r13⟩ := id h7d
  first | (go_region_with (first | (go_at_call 57; refine (hfb _).mono ?_; rintro e W3 ⟨s2, p2, l2, c2, q2, k2, d2, rfl, D2, g3⟩; have kw3 := kwd.trans g3; have h73 := h7d.keep g3; have h83 := h8d.keep g3; obtain ⟨u0, u1, u2, u3, u4, u5, u6, u7, u8, u9, u10, u11, u12, u13⟩ := id h73; obtain ⟨x0, x1, x2, x3, x4, x5, x6, x7, x8, x9, x10, x11, x12, x13⟩ := id h83; have hra3 := hra W3 s2 p2 l2 c2 q2 k2 d2 _ kw3 D2) | (go_at_call 55; refine hra3.mono ?_; rintro e W4 ⟨s3, p3, l3, c3, q3, k3, d3, rfl, D3, g4⟩; have kw4 := kw3.trans g4; have h74 := h73.keep g4; have h84 := h83.keep g4; obtain ⟨y0, y1, y2, y3, y4, y5, y6, y7, y8, y9, y10, y11, y12, y13⟩ := id h74; obtain ⟨z0, z1, z2, z3, z4, z5, z6, z7, z8, z9, z10, z11, z12, z13⟩ := id h84))) | fail
  all_goals (
    go_wp2
    have hl3 := h83.lt
    have hk3 := kw3.size
    refine bodyPost_ret (v := .agg #[.bool s3, .slice p3 l3 c3, .slice q3 k3 d3, .bool P, .bool M, .bool N, .int .u64 TT]) (by simp [results, Tryz.results32, go_sem, z0, z1, z2, z3, z4, z5, z6]) rfl ⟨s3, p3, l3, c3, q3, k3, d3, rfl, ?_, ?_⟩
    · refine Dy.mono ?_ hk3
      exact (Dy.set (Dy.set (Dy.set (Dy.set (Dy.set (Dy.set (Dy.set (Dy.set (Dy.set (Dy.set D3 (x := ⟨b, 0, none⟩) (show b < W3.heap.size by omega) _) (x := ⟨b, 1, none⟩) (show b < W3.heap.size by omega) _) (x := ⟨b, 2, none⟩) (show b < W3.heap.size by omega) _) (x := ⟨b + 1, 0, none⟩) (show b + 1 < W3.heap.size by omega) _) (x := ⟨b + 1, 1, none⟩) (show b + 1 < W3.heap.size by omega) _) (x := ⟨b + 1, 2, none⟩) (show b + 1 < W3.heap.size by omega) _) (x := ⟨b + 1, 3, none⟩) (show b + 1 < W3.heap.size by omega) _) (x := ⟨b + 1, 4, none⟩) (show b + 1 < W3.heap.size by omega) _) (x := ⟨b + 1, 5, none⟩) (show b + 1 < W3.heap.size by omega) _) (x := ⟨b + 1, 6, none⟩) (show b + 1 < W3.heap.size by omega) _)
    · exact ((((((((((kw4.setCell hbw _).setCell hbw _).setCell hbw _).setCell (show w.heap.size ≤ b + 1 by omega) _).setCell (show w.heap.size ≤ b + 1 by omega) _).setCell (show w.heap.size ≤ b + 1 by omega) _).setCell (show w.heap.size ≤ b + 1 by omega) _).setCell (show w.heap.size ≤ b + 1 by omega) _).setCell (show w.heap.size ≤ b + 1 by omega) _).setCell (show w.heap.size ≤ b + 1 by omega) _))
end Go.Proofs.YtokhnokobkmmkaaGreatDoor
namespace Go.Proofs.YtokhnokobkmmkaaGreatDoor
open Go.RowKit
/-- the state that a pattern makes, in the reference's three words -/
def xP (X : Nat) : Bool := decide (xS X = 1)
def xM (X : Nat) : Bool := decide (xS X = -1)
def xN (X : Nat) : Bool := decide (xS X = 2)
theorem tS_cases (n : Bool) (m : Nat) : tS n m = 0 ∨ tS n m = 1 ∨ tS n m = -1 ∨ tS n m = 2 := by
  unfold tS
  by_cases a : 9218868437227405312 < m
  · rw [if_pos a]; omega
  · rw [if_neg a]
    by_cases b : m = 9218868437227405312
    · rw [if_pos b]; cases n <;> simp
    · rw [if_neg b]; omega
theorem refadd_ (X K B : Nat) (hK : K = 1074) (hX : X < 18446744073709551616) (hB : B ≤ 60000) (v : Value) (V : Int) (T : Nat) (hT : T < 4611686018427387904) (P M N : Bool) (hV : V.natAbs < 2 ^ B) (hV2 : (xV X K).natAbs < 2 ^ B) (G : Nat → Prop) (w : World) (hG : ∀ g, G g → g < w.heap.size) (h : Rz G w v V K T P M N) : Calls Tryz.prog 32 #[v, .int .u64 (X : Int)] w fun e w' => ∃ v', e = .returned v' ∧ Rz G w' v' (V + xV X K) K (T + 1) (P || xP X) (M || xM X) (N || xN X) ∧ Kp w w' := by
  obtain ⟨s1, p1, l1, c1, q1, k1, d1, rfl, hD, hN⟩ := h
  obtain ⟨n, m, hm, rfl⟩ := Fq.exD X hX
  obtain ⟨u1, u2⟩ := wD_parts n m hm
  unfold xP xM xN xS
  unfold xV at hV2 ⊢
  rw [u1, u2] at hV2 ⊢
  by_cases c : m < 9218868437227405312
  · rw [if_pos c] at hV2 ⊢
    rw [fin0 n m c]
    refine (radd4_ n m K B hK c hB s1 p1 l1 c1 q1 k1 d1 P M N T hT V hV hV2 0 w hD).mono ?_
    rintro e w' ⟨s3, p3, l3, c3, q3, k3, d3, rfl, h3, g⟩
    exact ⟨_, rfl, ⟨s3, p3, l3, c3, q3, k3, d3, by simp, h3.mono (Nat.zero_le _), fun x hx => h3.nbLow (hG x hx)⟩, g⟩
  · rw [if_neg c, Int.add_zero]
    have hin := isnan_ n m hm
    have hii := isinf_ n m hm
    by_cases d : 9218868437227405312 < m
    · rw [decide_eq_true d] at hin
      rw [decide_eq_false (by omega)] at hii
      rw [show tS n m = 2 from by unfold tS; rw [if_pos d]]
      refine (raddN4_ _ s1 p1 l1 c1 q1 k1 d1 P M N T hT hin w).mono ?_
      rintro e w' ⟨rfl, g⟩
      exact ⟨_, rfl, ⟨s1, p1, l1, c1, q1, k1, d1, by simp, hD.kp g, hN⟩, g⟩
    · have e : m = 9218868437227405312 := by omega
      rw [decide_eq_false d] at hin
      rw [decide_eq_true e] at hii
      rw [show tS n m = if n then -1 else 1 from by unfold tS; rw [if_neg d, if_pos e]]
      cases n
      · refine (raddP4_ _ s1 p1 l1 c1 q1 k1 d1 P M N T hT hin hii (neg4_ _ _ (by rw [decide_eq_false_iff_not]; unfold Fq.wD; simp; omega)) w).mono ?_
        rintro e w' ⟨rfl, g⟩
        exact ⟨_, rfl, ⟨s1, p1, l1, c1, q1, k1, d1, by simp, hD.kp g, hN⟩, g⟩
      · refine (raddM4_ _ s1 p1 l1 c1 q1 k1 d1 P M N T hT hin hii (neg4_ _ _ (by rw [decide_eq_true_eq]; unfold Fq.wD; simp; omega)) w).mono ?_
        rintro e w' ⟨rfl, g⟩
        exact ⟨_, rfl, ⟨s1, p1, l1, c1, q1, k1, d1, by simp, hD.kp g, hN⟩, g⟩
end Go.Proofs.YtokhnokobkmmkaaGreatDoor
namespace Go.Proofs.YtokhnokobkmmkaaGreatDoor
open Go.RowKit
set_option maxRecDepth 20000 in
set_option maxHeartbeats 1000000 in
theorem squares_ (d : Int) (hd1 : -9223372036854775808 ≤ d) (hd2 : d < 9223372036854775808) (K : Nat) (hK : K = 1074) (p : Option Addr) (c : Nat) (xs : List Nat) (hx : ∀ x ∈ xs, x < 18446744073709551616) (hl : xs.length ≤ 1048576) (w : World) (ha : ArrF w p xs) (hT : Tab w) (hQ : Fq.Tab w) : Calls Tryz.prog 35 #[.int .i64 d, .slice p xs.length c] w fun e w' => e = .returned (.float .f64 (rdW d (dotV xs xs) (dotS xs xs))) ∧ Kp w w' := by
  have hz := zeroS
  have hst := St.zero w
  have hs : (wc (List.replicate 67 0) ++ #[Value.int .u64 0, Value.int .i64 0]).size = 69 := by rw [Array.size_append, wc_size, List.length_replicate]; rfl
  generalize wc (List.replicate 67 0) ++ #[Value.int .u64 0, Value.int .i64 0] = Z at *
  have k1 : Kp w (w.alloc (.cells Z 57)) := (Kp.refl w).alloc _
  obtain ⟨N, hN⟩ : ∃ N, N = xs.length := ⟨_, rfl⟩
  rw [← hN] at hl ⊢
  have HN : Hid (N = xs.length ∧ N ≤ 1048576 ∧ ArrF w p xs) := ⟨hN, hl, ha⟩
  obtain ⟨g, hg⟩ : ∃ g, g = w.heap.size := ⟨_, rfl⟩
  have HG : Hid (g = w.heap.size) := hg
  rw [← hg] at hst
  clear hN hl ha 
  go_enter Tryz.func35, Tryz.ntmps35
  go_wp2
  rw [← hg]
  clear hz hg
  go_loopw [10] (fun ii wr => ∃ i : Nat, ii = .int .i64 (i : Int) ∧ i ≤ N ∧ St wr g (dotV (xs.take i) (xs.take i)) i (dotS (xs.take i) (xs.take i)) ∧ Kp w wr) (fun i _ => N - (intOf i).toNat)
  case atStart => exact ⟨0, rfl, Nat.zero_le _, by simpa [dotV, dotS] using hst, k1⟩
  case round =>
    clear hst k1
    obtain ⟨i, rfl, hi, hS, hk⟩ := hrel
    obtain ⟨hN, hl, ha⟩ := HN.out
    by_cases ci : i < N
    · have hxi := mem_lt hx i (by omega)
      rcases ha with ha | ⟨b, off, rfl, ha⟩
      · rw [ha] at hN; simp at hN; omega
      have e1 := kkeep hk (ha i (by omega))
      have had := stmul_ (xs.getD i 0) (xs.getD i 0) hxi hxi g _ i _ (by omega) wr hS
      rw [← dotV_take xs xs i rfl (by omega), ← dotS_take xs xs i rfl (by omega)] at had
      obtain ⟨X, hX⟩ : ∃ X, X = xs.getD i 0 := ⟨_, rfl⟩
      rw [← hX] at had
      rw [← hX] at e1
      clear hX 
      have hz9 : w.heap.size ≤ g := by rw [HG.out]; exact Nat.le_refl _
      have j0 : (0 : Int) ≤ (i : Int) := by omega
      have j1 : (i : Int) < (N : Int) := by omega
      have j2 : i + 1 ≤ N := by omega
      have j3 : N - (i + 1) < N - i := by omega
      have j4 : i < 1048576 := by omega
      clear hN hl ha hi hxi hS hx 
      go_wp2_with (first | (go_at_call 37; refine had.mono ?_; rintro e w1 ⟨⟨v1, rfl⟩, hS1, kb1⟩; have hk1 := kb1.kp hk hz9))
      exact ⟨⟨i + 1, by go_num, j2, hS1, hk1⟩, (show N - (i + 1) < N - i from j3)⟩
    · have hiN : i = N := by omega
      have hS : St wr g (dotV xs xs) N (dotS xs xs) := by rw [hiN, List.take_of_length_le (by omega)] at hS; exact hS
      have t1 : ¬ ((i : Int) < (N : Int)) := by omega
      have hle := dotV_le K hK xs xs
      have hrd := stround_ d hd1 hd2 g _ N _ (Nat.lt_of_le_of_lt hle (tb_wh K _ hK (by omega))) wr hS (hT.grown hk) (Fq.Tab.grown hQ hk)
      clear hN hl ha hi hiN ci hS hle hx hK 
      go_wp2_with (first | (go_at_call 22; refine hrd.mono ?_; rintro e w2 ⟨rfl, g2⟩))
      exact bodyPost_ret (v := .float .f64 (rdW d (dotV xs xs) (dotS xs xs))) (by simp [results, Tryz.results35, go_sem]) rfl ⟨rfl, hk.trans g2⟩
end Go.Proofs.YtokhnokobkmmkaaGreatDoor
namespace Go.Proofs.YtokhnokobkmmkaaGreatDoor
open Go.RowKit
theorem aP_lt (X : Nat) (_h : X < 18446744073709551616) : aP X < 18446744073709551616 := by unfold aP; omega
theorem abs_p (X : Nat) (h : X < 18446744073709551616) (w : World) : Calls Tryz.prog 61 #[.float .f64 X] w fun e w' => e = .returned (.float .f64 (aP X)) ∧ w' = w := by
  obtain ⟨n, m, hm, rfl⟩ := Fq.exD X h
  unfold aP
  rw [(wD_parts n m hm).1]
  exact abs_ n m hm w
theorem map_getD (xs : List Nat) (i : Nat) (h : i < xs.length) : (xs.map aP).getD i 0 = aP (xs.getD i 0) := by
  simp [List.getD, h]
theorem sumVa_take (K : Nat) (xs : List Nat) (i : Nat) (h : i < xs.length) : sumV K ((xs.map aP).take (i + 1)) = sumV K ((xs.map aP).take i) + xV (aP (xs.getD i 0)) K := by
  rw [sumV_take K (xs.map aP) i (by simpa using h), map_getD xs i h]
theorem sumSa_take (xs : List Nat) (i : Nat) (h : i < xs.length) : sumS ((xs.map aP).take (i + 1)) = jn (sumS ((xs.map aP).take i)) (xS (aP (xs.getD i 0))) := by
  rw [sumS_take (xs.map aP) i (by simpa using h), map_getD xs i h]
set_option maxRecDepth 20000 in
set_option maxHeartbeats 1000000 in
theorem tabs_ (d : Int) (hd1 : -9223372036854775808 ≤ d) (hd2 : d < 9223372036854775808) (K : Nat) (hK : K = 1074) (p : Option Addr) (c : Nat) (xs : List Nat) (hx : ∀ x ∈ xs, x < 18446744073709551616) (hl : xs.length ≤ 1048576) (w : World) (ha : ArrF w p xs) (hT : Tab w) (hQ : Fq.Tab w) : Calls Tryz.prog 34 #[.int .i64 d, .slice p xs.length c] w fun e w' => e = .returned (.float .f64 (rdW d (sumV K (xs.map aP)) (sumS (xs.map aP)))) ∧ Kp w w' := by
  have hz := zeroS
  have hst := St.zero w
  have hs : (wc (List.replicate 67 0) ++ #[Value.int .u64 0, Value.int .i64 0]).size = 69 := by rw [Array.size_append, wc_size, List.length_replicate]; rfl
  generalize wc (List.replicate 67 0) ++ #[Value.int .u64 0, Value.int .i64 0] = Z at *
  have k1 : Kp w (w.alloc (.cells Z 57)) := (Kp.refl w).alloc _
  obtain ⟨N, hN⟩ : ∃ N, N = xs.length := ⟨_, rfl⟩
  rw [← hN] at hl ⊢
  have HN : Hid (N = xs.length ∧ N ≤ 1048576 ∧ ArrF w p xs) := ⟨hN, hl, ha⟩
  obtain ⟨g, hg⟩ : ∃ g, g = w.heap.size := ⟨_, rfl⟩
  have HG : Hid (g = w.heap.size) := hg
  rw [← hg] at hst
  clear hN hl ha
  go_enter Tryz.func34, Tryz.ntmps34
  go_wp2
  rw [← hg]
  clear hz hg
  go_loopw [10] (fun ii wr => ∃ i : Nat, ii = .int .i64 (i : Int) ∧ i ≤ N ∧ St wr g (sumV K ((xs.map aP).take i)) i (sumS ((xs.map aP).take i)) ∧ Kp w wr) (fun i _ => N - (intOf i).toNat)
  case atStart => exact ⟨0, rfl, Nat.zero_le _, by simpa [sumV, sumS] using hst, k1⟩
  case round =>
    clear hst k1
    obtain ⟨i, rfl, hi, hS, hk⟩ := hrel
    obtain ⟨hN, hl, ha⟩ := HN.out
    by_cases ci : i < N
    · have hxi : xs.getD i 0 < 18446744073709551616 := hx _ (by rw [List.getD_eq_getElem?_getD, List.getElem?_eq_getElem (by omega)]; exact List.getElem_mem _)
      rcases ha with ha | ⟨b, off, rfl, ha⟩
      · rw [ha] at hN; simp at hN; omega
      have e1 := kkeep hk (ha i (by omega))
      have hab := abs_p (xs.getD i 0) hxi
      have had := stadd_ (aP (xs.getD i 0)) K hK (aP_lt _ hxi) g _ i _ (by omega) wr hS
      rw [← sumVa_take K xs i (by omega), ← sumSa_take xs i (by omega)] at had
      obtain ⟨X, hX⟩ : ∃ X, X = xs.getD i 0 := ⟨_, rfl⟩
      rw [← hX] at e1 had hab
      clear hX
      have hz9 : w.heap.size ≤ g := by rw [HG.out]; exact Nat.le_refl _
      have j0 : (0 : Int) ≤ (i : Int) := by omega
      have j1 : (i : Int) < (N : Int) := by omega
      have j2 : i + 1 ≤ N := by omega
      have j3 : N - (i + 1) < N - i := by omega
      have j4 : i < 1048576 := by omega
      clear hN hl ha hi hxi hS hx
      go_wp2_with (first | (go_at_call 61; refine (hab _).mono ?_; rintro e w' ⟨rfl, hw'⟩; obtain rfl := hw'.symm; clear hw') | (go_at_call 17; refine had.mono ?_; rintro e w1 ⟨⟨v1, rfl⟩, hS1, kb1⟩; have hk1 := kb1.kp hk hz9))
      exact ⟨⟨i + 1, by go_num, j2, hS1, hk1⟩, (show N - (i + 1) < N - i from j3)⟩
    · have hiN : i = N := by omega
      have hS : St wr g (sumV K (xs.map aP)) N (sumS (xs.map aP)) := by rw [hiN, List.take_of_length_le (by first | omega | (simp; omega))] at hS; exact hS
      have t1 : ¬ ((i : Int) < (N : Int)) := by omega
      have hle := sumV_le K hK (xs.map aP)
      have hrd := stround_ d hd1 hd2 g _ N _ (Nat.lt_of_le_of_lt hle (tb_wh K _ hK (by first | omega | (simp; omega)))) wr hS (hT.grown hk) (Fq.Tab.grown hQ hk)
      clear hN hl ha hi hiN ci hS hle hx hK
      go_wp2_with (first | (go_at_call 22; refine hrd.mono ?_; rintro e w2 ⟨rfl, g2⟩))
      exact bodyPost_ret (v := .float .f64 (rdW d (sumV K (xs.map aP)) (sumS (xs.map aP)))) (by simp [results, Tryz.results34, go_sem]) rfl ⟨rfl, hk.trans g2⟩
end Go.Proofs.YtokhnokobkmmkaaGreatDoor
namespace Go.Proofs.YtokhnokobkmmkaaGreatDoor
open Go.RowKit
/-- the sum of each kind of list -/
def lV (k K : Nat) (xs : List Nat) : Int := if k = 0 then sumV K xs else if k = 1 then sumV K (xs.map aP) else dotV xs xs
set_option maxRecDepth 20000 in
set_option maxHeartbeats 400000 in
theorem whole04_ (d : Int) (hd1 : -9223372036854775808 ≤ d) (hd2 : d < 9223372036854775808) (K : Nat) (hK : K = 1074) (p : Option Addr) (c : Nat) (xs : List Nat) (hx : ∀ x ∈ xs, x < 18446744073709551616) (hl : xs.length ≤ 1048576) (w : World) (ha : ArrF w p xs) (hT : Tab w) (hQ : Fq.Tab w) : Calls Tryz.prog 10 #[.int .i64 0, .int .i64 d, .slice p xs.length c] w fun e w' => e = .returned (.int .u64 ((rdW d (sumV K xs) (sumS xs) : Nat) : Int)) ∧ Kp w w' := by
  have h1 := total_ d hd1 hd2 K hK p c xs hx hl w ha hT hQ
  have h2 := bitsR4_ d (sumV K xs) (sumS xs)
  generalize rdW d (sumV K xs) (sumS xs) = R at *
  generalize xs.length = N at *
  clear hx ha hT hQ hK hd1 hd2
  go_enter Tryz.func10, Tryz.ntmps10
  go_wp2_with (first | (go_at_call 33; refine h1.mono ?_; rintro e w1 ⟨rfl, g1⟩) | (go_at_call 23; refine (h2 _).mono ?_; rintro e w' ⟨rfl, hw'⟩; obtain rfl := hw'.symm; clear hw'))
  exact bodyPost_ret (v := .int .u64 (R : Int)) (by simp [results, Tryz.results10, go_sem]) rfl ⟨rfl, g1⟩
set_option maxRecDepth 20000 in
set_option maxHeartbeats 400000 in
theorem whole14_ (d : Int) (hd1 : -9223372036854775808 ≤ d) (hd2 : d < 9223372036854775808) (K : Nat) (hK : K = 1074) (p : Option Addr) (c : Nat) (xs : List Nat) (hx : ∀ x ∈ xs, x < 18446744073709551616) (hl : xs.length ≤ 1048576) (w : World) (ha : ArrF w p xs) (hT : Tab w) (hQ : Fq.Tab w) : Calls Tryz.prog 10 #[.int .i64 1, .int .i64 d, .slice p xs.length c] w fun e w' => e = .returned (.int .u64 ((rdW d (sumV K (xs.map aP)) (sumS (xs.map aP)) : Nat) : Int)) ∧ Kp w w' := by
  have h1 := tabs_ d hd1 hd2 K hK p c xs hx hl w ha hT hQ
  have h2 := bitsR4_ d (sumV K (xs.map aP)) (sumS (xs.map aP))
  generalize rdW d (sumV K (xs.map aP)) (sumS (xs.map aP)) = R at *
  generalize xs.length = N at *
  clear hx ha hT hQ hK hd1 hd2
  go_enter Tryz.func10, Tryz.ntmps10
  go_wp2_with (first | (go_at_call 34; refine h1.mono ?_; rintro e w1 ⟨rfl, g1⟩) | (go_at_call 23; refine (h2 _).mono ?_; rintro e w' ⟨rfl, hw'⟩; obtain rfl := hw'.symm; clear hw'))
  exact bodyPost_ret (v := .int .u64 (R : Int)) (by simp [results, Tryz.results10, go_sem]) rfl ⟨rfl, g1⟩
set_option maxRecDepth 20000 in
set_option maxHeartbeats 400000 in
theorem whole24_ (d : Int) (hd1 : -9223372036854775808 ≤ d) (hd2 : d < 9223372036854775808) (K : Nat) (hK : K = 1074) (p : Option Addr) (c : Nat) (xs : List Nat) (hx : ∀ x ∈ xs, x < 18446744073709551616) (hl : xs.length ≤ 1048576) (w : World) (ha : ArrF w p xs) (hT : Tab w) (hQ : Fq.Tab w) : Calls Tryz.prog 10 #[.int .i64 2, .int .i64 d, .slice p xs.length c] w fun e w' => e = .returned (.int .u64 ((rdW d (dotV xs xs) (dotS xs xs) : Nat) : Int)) ∧ Kp w w' := by
  have h1 := squares_ d hd1 hd2 K hK p c xs hx hl w ha hT hQ
  have h2 := bitsR4_ d (dotV xs xs) (dotS xs xs)
  generalize rdW d (dotV xs xs) (dotS xs xs) = R at *
  generalize xs.length = N at *
  clear hx ha hT hQ hK hd1 hd2
  go_enter Tryz.func10, Tryz.ntmps10
  go_wp2_with (first | (go_at_call 35; refine h1.mono ?_; rintro e w1 ⟨rfl, g1⟩) | (go_at_call 23; refine (h2 _).mono ?_; rintro e w' ⟨rfl, hw'⟩; obtain rfl := hw'.symm; clear hw'))
  exact bodyPost_ret (v := .int .u64 (R : Int)) (by simp [results, Tryz.results10, go_sem]) rfl ⟨rfl, g1⟩
theorem whole4_ (d : Int) (hd1 : -9223372036854775808 ≤ d) (hd2 : d < 9223372036854775808) (K : Nat) (hK : K = 1074) (k : Nat) (hk : k < 3) (p : Option Addr) (c : Nat) (xs : List Nat) (hx : ∀ x ∈ xs, x < 18446744073709551616) (hl : xs.length ≤ 1048576) (w : World) (ha : ArrF w p xs) (hT : Tab w) (hQ : Fq.Tab w) : Calls Tryz.prog 10 #[.int .i64 (k : Int), .int .i64 d, .slice p xs.length c] w fun e w' => e = .returned (.int .u64 ((rdW d (lV k K xs) (lS k xs) : Nat) : Int)) ∧ Kp w w' := by
  have hc : k = 0 ∨ k = 1 ∨ k = 2 := by omega
  unfold lV lS
  rcases hc with rfl | rfl | rfl
  · exact whole04_ d hd1 hd2 K hK p c xs hx hl w ha hT hQ
  · exact whole14_ d hd1 hd2 K hK p c xs hx hl w ha hT hQ
  · exact whole24_ d hd1 hd2 K hK p c xs hx hl w ha hT hQ
end Go.Proofs.YtokhnokobkmmkaaGreatDoor
namespace Go.Proofs.YtokhnokobkmmkaaGreatDoor
open Go.RowKit
/-- what Of answers -/
def OfR (K : Nat) (V S : Int) (w : World) (e : Ending) (w' : World) : Prop := ∃ (s1 : Bool) (p1 : Option Addr) (l1 c1 : Nat) (q1 : Option Addr) (k1 d1 : Nat) (P M N : Bool) (T : Int), e = .returned (.agg #[.bool s1, .slice p1 l1 c1, .slice q1 k1 d1, .bool P, .bool M, .bool N, .int .u64 T]) ∧ Dy 0 w' s1 p1 l1 c1 q1 k1 d1 V (K + K) ∧ stI P M N = S ∧ Kp w w'
theorem and_top (X : Nat) (h : X < 18446744073709551616) : bits .andNot .u64 (X : Int) 9223372036854775808 = ((aP X : Nat) : Int) := by
  have h1 := u64_andNot_nat X 9223372036854775808 h (by decide)
  have e : X &&& (18446744073709551615 - 9223372036854775808) = X % 9223372036854775808 := Nat.and_two_pow_sub_one_eq_mod X 63
  rw [e] at h1
  exact h1
set_option maxRecDepth 20000 in
set_option maxHeartbeats 2000000 in
theorem rof04_ (K : Nat) (hK : K = 1074) (p : Option Addr) (c : Nat) (xs : List Nat) (hx : ∀ x ∈ xs, x < 18446744073709551616) (hl : xs.length ≤ 1048576) (w : World) (ha : ArrU w p xs) : Calls Tryz.prog 8 #[.int .i64 0, .slice p xs.length c] w fun e w' => OfR K (sumV K xs) (sumS xs) w e w' := by
  have hnew := new4_ K
  obtain ⟨N, hN⟩ : ∃ N, N = xs.length := ⟨_, rfl⟩
  rw [← hN] at hl ⊢
  have HN : Hid (N = xs.length ∧ N ≤ 1048576 ∧ ArrU w p xs ∧ K = 1074) := ⟨hN, hl, ha, hK⟩
  have HW : Hid (∀ x ∈ xs, x < 18446744073709551616) := hx
  have h9 : H7c (w.alloc (.cells #[.bool false, .slice none 0 0, .slice none 0 0, .bool false, .bool false, .bool false, .int .u64 0] 30)) w.heap.size (.bool false) (.slice none 0 0) (.slice none 0 0) (.bool false) (.bool false) (.bool false) (.int .u64 0) := H7c.new w (.bool false) (.slice none 0 0) (.slice none 0 0) (.bool false) (.bool false) (.bool false) (.int .u64 0) 30
  have k9 : Kp w (w.alloc (.cells #[.bool false, .slice none 0 0, .slice none 0 0, .bool false, .bool false, .bool false, .int .u64 0] 30)) := (Kp.refl w).alloc _
  clear hN hl ha hK hx
  go_enter Tryz.func8, Tryz.ntmps8
  go_wp2_with (first | (go_at_call 30; refine (hnew _).mono ?_; rintro e W1 ⟨v, rfl, hz, g1⟩; obtain ⟨s1, p1, l1, c1, q1, k1, d1, rfl, hD, hNb⟩ := hz (fun g => g = W1.heap.size ∨ g = w.heap.size) (fun g hg => hg.elim (fun h => Or.inl (Nat.le_of_eq h.symm)) (fun h => Or.inr (by rw [h]; simp)))))
  have hS0 : Sz (fun g => g = W1.heap.size ∨ g = w.heap.size) (W1.alloc (.cells #[.bool s1, .slice p1 l1 c1, .slice q1 k1 d1, .bool false, .bool false, .bool false, .int .u64 0] 30)) W1.heap.size 0 K 0 false false false := ⟨s1, p1, l1, c1, q1, k1, d1, H7c.new W1 (.bool s1) (.slice p1 l1 c1) (.slice q1 k1 d1) (.bool false) (.bool false) (.bool false) (.int .u64 0) 30, hD.kp ((Kp.refl _).alloc _), hNb⟩
  have k0 : Kp w (W1.alloc (.cells #[.bool s1, .slice p1 l1 c1, .slice q1 k1 d1, .bool false, .bool false, .bool false, .int .u64 0] 30)) := (k9.trans g1).alloc _
  have hR0 : H7c (W1.alloc (.cells #[.bool s1, .slice p1 l1 c1, .slice q1 k1 d1, .bool false, .bool false, .bool false, .int .u64 0] 30)) w.heap.size (.bool false) (.slice none 0 0) (.slice none 0 0) (.bool false) (.bool false) (.bool false) (.int .u64 0) := (h9.keep g1).keep ((Kp.refl _).alloc _)
  have hle : w.heap.size < W1.heap.size := Nat.lt_of_lt_of_le h9.lt g1.size
  have hz0 : stI false false false = 0 := rfl
  clear hD hNb g1 hz hnew h9 k9
  generalize W1.heap.size = b at *
  obtain ⟨r, hr⟩ : ∃ r, r = w.heap.size := ⟨_, rfl⟩
  rw [← hr] at hS0 hR0 hle ⊢
  have hr0 : w.heap.size ≤ r := by rw [hr]; exact Nat.le_refl _
  clear hr
  go_loopw [6, 7] (fun ii xx wr => ∃ (i : Nat) (P M NN : Bool), ii = .int .i64 (i : Int) ∧ i ≤ N ∧ Sz (fun g => g = b ∨ g = r) wr b (sumV K (xs.take i)) K i P M NN ∧ stI P M NN = sumS (xs.take i) ∧ H7c wr r (.bool false) (.slice none 0 0) (.slice none 0 0) (.bool false) (.bool false) (.bool false) (.int .u64 0) ∧ Kp w wr) (fun i _ _ => N - (intOf i).toNat)
  case atStart => exact ⟨0, false, false, false, rfl, Nat.zero_le _, by simpa [sumV] using hS0, by rw [hz0]; simp [sumS], hR0, k0⟩
  case round =>
    clear hS0 k0 hz0 hR0
    obtain ⟨i, P, M, NN, rfl, hi, ⟨s1, p1, l1, c1, q1, k1, d1, h7, hD, hNb⟩, hst, hR, hk⟩ := hrel
    obtain ⟨hN, hl, ha, hK⟩ := HN.out
    have hx := HW.out
    by_cases ci : i < N
    · have hxi := mem_lt hx i (by omega)
      rcases ha with ha | ⟨bx, off, rfl, ha⟩
      · rw [ha] at hN; simp at hN; omega
      have e1 := kkeep hk (ha i (by omega))
      have hlt := h7.lt
      have hV1 : (sumV K (xs.take i)).natAbs < 2 ^ 4287 := by
        have h1 := sumV_le K hK (xs.take i)
        exact lt_wh (Nat.lt_of_le_of_lt h1 (tb_wh K _ hK (by simp; omega)))
      have hV2 : (xV (xs.getD i 0) K).natAbs < 2 ^ 4287 := by
        have h1 := xV_le (xs.getD i 0) K hK
        have h2 := tb_wh K 1 hK (by omega)
        rw [Nat.one_mul] at h2
        exact lt_wh (Nat.lt_of_le_of_lt h1 h2)
      have hmu := refadd_ (xs.getD i 0) K 4287 hK hxi (by omega) _ (sumV K (xs.take i)) i (by omega) P M NN hV1 hV2 (fun g => g = b ∨ g = r) wr (fun g hg => by rcases hg with rfl | rfl; exact hlt; omega) ⟨s1, p1, l1, c1, q1, k1, d1, rfl, hD, hNb⟩
      have hst2 : stI (P || xP (xs.getD i 0)) (M || xM (xs.getD i 0)) (NN || xN (xs.getD i 0)) = sumS (xs.take (i + 1)) := by
        unfold xP xM xN
        rw [stI_jn _ _ _ _ (by unfold xS; exact tS_cases _ _), hst, sumS_take xs i (by omega)]
      rw [← sumV_take K xs i (by omega)] at hmu
      generalize hV : sumV K (xs.take (i + 1)) = VV at *
      have hV : Hid (sumV K (xs.take (i + 1)) = VV) := hV
      generalize (P || xP (xs.getD i 0)) = PP at *
      generalize (M || xM (xs.getD i 0)) = MM at *
      generalize (NN || xN (xs.getD i 0)) = NX at *
      obtain ⟨X, hX⟩ : ∃ X, X = xs.getD i 0 := ⟨_, rfl⟩
      rw [← hX] at hmu e1 hxi
      have hX2 := hxi
      have j1 : (i : Int) < (N : Int) := by omega
      have j2 : i + 1 ≤ N := by omega
      have j3 : N - (i + 1) < N - i := by omega
      have j4 : i < 1048576 := by omega
      obtain ⟨r0, r1, r2, r3, r4, r5, r6, r7, r8, r9, r10, r11, r12, r13⟩ := id h7
      have HH : Hid (H7c wr b (.bool s1) (.slice p1 l1 c1) (.slice q1 k1 d1) (.bool P) (.bool M) (.bool NN) (.int .u64 (i : Int)) ∧ Kp w wr ∧ r < b ∧ w.heap.size ≤ r ∧ stI PP MM NX = sumS (xs.take (i + 1)) ∧ H7c wr r (.bool false) (.slice none 0 0) (.slice none 0 0) (.bool false) (.bool false) (.bool false) (.int .u64 0)) := ⟨h7, hk, hle, hr0, hst2, hR⟩
      clear hN hl ha hi hxi hx HN HW hX hX2 hD hNb hst hK hV1 hV2 hlt hst2 hle hr0 hR
      go_wp2_with (first | (go_at_call 32; refine hmu.mono ?_; rintro e W3 ⟨v3, rfl, ⟨s3, p3, l3, c3, q3, k3, d3, rfl, D3, nb3⟩, g3⟩; have kw3 := hk.trans g3; have h73 := h7.keep g3; obtain ⟨u0, u1, u2, u3, u4, u5, u6, u7, u8, u9, u10, u11, u12, u13⟩ := id h73))
      obtain ⟨h7', hk', hle, hr0, hst2, hR⟩ := HH.out
      refine ⟨⟨i + 1, PP, MM, NX, by go_num, j2, ?_, hst2, ?_, ?_⟩, (show N - (i + 1) < N - i from j3)⟩
      · rw [hV.out]
        exact Sz.put (h7.keep g3) D3 nb3 (nb3 _ (Or.inl rfl))
      · exact (H7c.far1 (H7c.far1 (H7c.far1 (H7c.far1 (H7c.far1 (H7c.far1 (H7c.far1 (hR.keep g3) ⟨b, 0, none⟩ (show b ≠ r by omega) _) ⟨b, 1, none⟩ (show b ≠ r by omega) _) ⟨b, 2, none⟩ (show b ≠ r by omega) _) ⟨b, 3, none⟩ (show b ≠ r by omega) _) ⟨b, 4, none⟩ (show b ≠ r by omega) _) ⟨b, 5, none⟩ (show b ≠ r by omega) _) ⟨b, 6, none⟩ (show b ≠ r by omega) _)
      · exact kp_put7 kw3 (by omega) _ _ _ _ _ _ _
    · have hiN : i = N := by omega
      have t1 : ¬ ((i : Int) < (N : Int)) := by omega
      have hst3 : stI P M NN = sumS xs := by rw [hst, List.take_of_length_le (by first | omega | (simp; omega))]
      have hV3 : sumV K (xs.take i) = sumV K xs := by rw [List.take_of_length_le (by first | omega | (simp; omega))]
      rw [hV3] at hD
      have hnr := hNb r (Or.inr rfl)
      obtain ⟨r0, r1, r2, r3, r4, r5, r6, r7, r8, r9, r10, r11, r12, r13⟩ := id h7
      obtain ⟨t0, t1, t2, t3, t4, t5, t6, t7, t8, t9, t10, t11, t12, t13⟩ := id hR
      have HH : Hid (Dy 0 wr s1 p1 l1 c1 q1 k1 d1 (sumV K xs) (K + K) ∧ stI P M NN = sumS xs ∧ H7c wr r (.bool false) (.slice none 0 0) (.slice none 0 0) (.bool false) (.bool false) (.bool false) (.int .u64 0)) := ⟨hD, hst3, hR⟩
      clear hN hl ha hi hiN ci hD hNb hx hK HN HW hst h7 hst3 hV3 hR hle
      go_wp2
      obtain ⟨hD, hst3, hR⟩ := HH.out
      have hp := H7c.put hR (.bool s1) (.slice p1 l1 c1) (.slice q1 k1 d1) (.bool P) (.bool M) (.bool NN) (.int .u64 (i : Int))
      clear t0 t1 t2 t3 t4 t5 t6 t7 t8 t9 t10 t11 t12 t13
      obtain ⟨z0, z1, z2, z3, z4, z5, z6, z7, z8, z9, z10, z11, z12, z13⟩ := id hp
      refine bodyPost_ret (v := .agg #[.bool s1, .slice p1 l1 c1, .slice q1 k1 d1, .bool P, .bool M, .bool NN, .int .u64 (i : Int)]) (by simp [results, Tryz.results8, go_sem, z0, z1, z2, z3, z4, z5, z6]) rfl ⟨s1, p1, l1, c1, q1, k1, d1, P, M, NN, _, rfl, ?_, hst3, ?_⟩
      · exact (Dy.setNe (Dy.setNe (Dy.setNe (Dy.setNe (Dy.setNe (Dy.setNe (Dy.setNe hD (x := ⟨r, 0, none⟩) hnr _) (x := ⟨r, 1, none⟩) hnr _) (x := ⟨r, 2, none⟩) hnr _) (x := ⟨r, 3, none⟩) hnr _) (x := ⟨r, 4, none⟩) hnr _) (x := ⟨r, 5, none⟩) hnr _) (x := ⟨r, 6, none⟩) hnr _)
      · exact (((((((hk.setCell hr0 _).setCell hr0 _).setCell hr0 _).setCell hr0 _).setCell hr0 _).setCell hr0 _).setCell hr0 _)
end Go.Proofs.YtokhnokobkmmkaaGreatDoor
namespace Go.Proofs.YtokhnokobkmmkaaGreatDoor
open Go.RowKit
set_option maxRecDepth 20000 in
set_option maxHeartbeats 2000000 in
theorem rof14_ (K : Nat) (hK : K = 1074) (p : Option Addr) (c : Nat) (xs : List Nat) (hx : ∀ x ∈ xs, x < 18446744073709551616) (hl : xs.length ≤ 1048576) (w : World) (ha : ArrU w p xs) : Calls Tryz.prog 8 #[.int .i64 1, .slice p xs.length c] w fun e w' => OfR K (sumV K (xs.map aP)) (sumS (xs.map aP)) w e w' := by
  have hnew := new4_ K
  obtain ⟨N, hN⟩ : ∃ N, N = xs.length := ⟨_, rfl⟩
  rw [← hN] at hl ⊢
  have HN : Hid (N = xs.length ∧ N ≤ 1048576 ∧ ArrU w p xs ∧ K = 1074) := ⟨hN, hl, ha, hK⟩
  have HW : Hid (∀ x ∈ xs, x < 18446744073709551616) := hx
  have h9 : H7c (w.alloc (.cells #[.bool false, .slice none 0 0, .slice none 0 0, .bool false, .bool false, .bool false, .int .u64 0] 30)) w.heap.size (.bool false) (.slice none 0 0) (.slice none 0 0) (.bool false) (.bool false) (.bool false) (.int .u64 0) := H7c.new w (.bool false) (.slice none 0 0) (.slice none 0 0) (.bool false) (.bool false) (.bool false) (.int .u64 0) 30
  have k9 : Kp w (w.alloc (.cells #[.bool false, .slice none 0 0, .slice none 0 0, .bool false, .bool false, .bool false, .int .u64 0] 30)) := (Kp.refl w).alloc _
  clear hN hl ha hK hx
  go_enter Tryz.func8, Tryz.ntmps8
  go_wp2_with (first | (go_at_call 30; refine (hnew _).mono ?_; rintro e W1 ⟨v, rfl, hz, g1⟩; obtain ⟨s1, p1, l1, c1, q1, k1, d1, rfl, hD, hNb⟩ := hz (fun g => g = W1.heap.size ∨ g = w.heap.size) (fun g hg => hg.elim (fun h => Or.inl (Nat.le_of_eq h.symm)) (fun h => Or.inr (by rw [h]; simp)))))
  have hS0 : Sz (fun g => g = W1.heap.size ∨ g = w.heap.size) (W1.alloc (.cells #[.bool s1, .slice p1 l1 c1, .slice q1 k1 d1, .bool false, .bool false, .bool false, .int .u64 0] 30)) W1.heap.size 0 K 0 false false false := ⟨s1, p1, l1, c1, q1, k1, d1, H7c.new W1 (.bool s1) (.slice p1 l1 c1) (.slice q1 k1 d1) (.bool false) (.bool false) (.bool false) (.int .u64 0) 30, hD.kp ((Kp.refl _).alloc _), hNb⟩
  have k0 : Kp w (W1.alloc (.cells #[.bool s1, .slice p1 l1 c1, .slice q1 k1 d1, .bool false, .bool false, .bool false, .int .u64 0] 30)) := (k9.trans g1).alloc _
  have hR0 : H7c (W1.alloc (.cells #[.bool s1, .slice p1 l1 c1, .slice q1 k1 d1, .bool false, .bool false, .bool false, .int .u64 0] 30)) w.heap.size (.bool false) (.slice none 0 0) (.slice none 0 0) (.bool false) (.bool false) (.bool false) (.int .u64 0) := (h9.keep g1).keep ((Kp.refl _).alloc _)
  have hle : w.heap.size < W1.heap.size := Nat.lt_of_lt_of_le h9.lt g1.size
  have hz0 : stI false false false = 0 := rfl
  clear hD hNb g1 hz hnew h9 k9
  generalize W1.heap.size = b at *
  obtain ⟨r, hr⟩ : ∃ r, r = w.heap.size := ⟨_, rfl⟩
  rw [← hr] at hS0 hR0 hle ⊢
  have hr0 : w.heap.size ≤ r := by rw [hr]; exact Nat.le_refl _
  clear hr
  go_loopw [6, 7] (fun ii xx wr => ∃ (i : Nat) (P M NN : Bool), ii = .int .i64 (i : Int) ∧ i ≤ N ∧ Sz (fun g => g = b ∨ g = r) wr b (sumV K ((xs.map aP).take i)) K i P M NN ∧ stI P M NN = sumS ((xs.map aP).take i) ∧ H7c wr r (.bool false) (.slice none 0 0) (.slice none 0 0) (.bool false) (.bool false) (.bool false) (.int .u64 0) ∧ Kp w wr) (fun i _ _ => N - (intOf i).toNat)
  case atStart => exact ⟨0, false, false, false, rfl, Nat.zero_le _, by simpa [sumV] using hS0, by rw [hz0]; simp [sumS], hR0, k0⟩
  case round =>
    clear hS0 k0 hz0 hR0
    obtain ⟨i, P, M, NN, rfl, hi, ⟨s1, p1, l1, c1, q1, k1, d1, h7, hD, hNb⟩, hst, hR, hk⟩ := hrel
    obtain ⟨hN, hl, ha, hK⟩ := HN.out
    have hx := HW.out
    by_cases ci : i < N
    · have hxi := mem_lt hx i (by omega)
      rcases ha with ha | ⟨bx, off, rfl, ha⟩
      · rw [ha] at hN; simp at hN; omega
      have e1 := kkeep hk (ha i (by omega))
      have hlt := h7.lt
      have hV1 : (sumV K ((xs.map aP).take i)).natAbs < 2 ^ 4287 := by
        have h1 := sumV_le K hK ((xs.map aP).take i)
        exact lt_wh (Nat.lt_of_le_of_lt h1 (tb_wh K _ hK (by simp; omega)))
      have hV2 : (xV (aP (xs.getD i 0)) K).natAbs < 2 ^ 4287 := by
        have h1 := xV_le (aP (xs.getD i 0)) K hK
        have h2 := tb_wh K 1 hK (by omega)
        rw [Nat.one_mul] at h2
        exact lt_wh (Nat.lt_of_le_of_lt h1 h2)
      have hmu := refadd_ (aP (xs.getD i 0)) K 4287 hK (aP_lt _ hxi) (by omega) _ (sumV K ((xs.map aP).take i)) i (by omega) P M NN hV1 hV2 (fun g => g = b ∨ g = r) wr (fun g hg => by rcases hg with rfl | rfl; exact hlt; omega) ⟨s1, p1, l1, c1, q1, k1, d1, rfl, hD, hNb⟩
      have hst2 : stI (P || xP (aP (xs.getD i 0))) (M || xM (aP (xs.getD i 0))) (NN || xN (aP (xs.getD i 0))) = sumS ((xs.map aP).take (i + 1)) := by
        unfold xP xM xN
        rw [stI_jn _ _ _ _ (by unfold xS; exact tS_cases _ _), hst, sumSa_take xs i (by omega)]
      rw [← sumVa_take K xs i (by omega)] at hmu
      generalize hV : sumV K ((xs.map aP).take (i + 1)) = VV at *
      have hV : Hid (sumV K ((xs.map aP).take (i + 1)) = VV) := hV
      generalize (P || xP (aP (xs.getD i 0))) = PP at *
      generalize (M || xM (aP (xs.getD i 0))) = MM at *
      generalize (NN || xN (aP (xs.getD i 0))) = NX at *
      obtain ⟨X, hX⟩ : ∃ X, X = xs.getD i 0 := ⟨_, rfl⟩
      rw [← hX] at hmu e1 hxi
      have hX2 := hxi
      have hand := and_top X hX2
      have j1 : (i : Int) < (N : Int) := by omega
      have j2 : i + 1 ≤ N := by omega
      have j3 : N - (i + 1) < N - i := by omega
      have j4 : i < 1048576 := by omega
      obtain ⟨r0, r1, r2, r3, r4, r5, r6, r7, r8, r9, r10, r11, r12, r13⟩ := id h7
      have HH : Hid (H7c wr b (.bool s1) (.slice p1 l1 c1) (.slice q1 k1 d1) (.bool P) (.bool M) (.bool NN) (.int .u64 (i : Int)) ∧ Kp w wr ∧ r < b ∧ w.heap.size ≤ r ∧ stI PP MM NX = sumS ((xs.map aP).take (i + 1)) ∧ H7c wr r (.bool false) (.slice none 0 0) (.slice none 0 0) (.bool false) (.bool false) (.bool false) (.int .u64 0)) := ⟨h7, hk, hle, hr0, hst2, hR⟩
      clear hN hl ha hi hxi hx HN HW hX hX2 hD hNb hst hK hV1 hV2 hlt hst2 hle hr0 hR
      go_wp2_with (first | (go_at_call 32; refine hmu.mono ?_; rintro e W3 ⟨v3, rfl, ⟨s3, p3, l3, c3, q3, k3, d3, rfl, D3, nb3⟩, g3⟩; have kw3 := hk.trans g3; have h73 := h7.keep g3; obtain ⟨u0, u1, u2, u3, u4, u5, u6, u7, u8, u9, u10, u11, u12, u13⟩ := id h73))
      obtain ⟨h7', hk', hle, hr0, hst2, hR⟩ := HH.out
      refine ⟨⟨i + 1, PP, MM, NX, by go_num, j2, ?_, hst2, ?_, ?_⟩, (show N - (i + 1) < N - i from j3)⟩
      · rw [hV.out]
        exact Sz.put (h7.keep g3) D3 nb3 (nb3 _ (Or.inl rfl))
      · exact (H7c.far1 (H7c.far1 (H7c.far1 (H7c.far1 (H7c.far1 (H7c.far1 (H7c.far1 (hR.keep g3) ⟨b, 0, none⟩ (show b ≠ r by omega) _) ⟨b, 1, none⟩ (show b ≠ r by omega) _) ⟨b, 2, none⟩ (show b ≠ r by omega) _) ⟨b, 3, none⟩ (show b ≠ r by omega) _) ⟨b, 4, none⟩ (show b ≠ r by omega) _) ⟨b, 5, none⟩ (show b ≠ r by omega) _) ⟨b, 6, none⟩ (show b ≠ r by omega) _)
      · exact kp_put7 kw3 (by omega) _ _ _ _ _ _ _
    · have hiN : i = N := by omega
      have t1 : ¬ ((i : Int) < (N : Int)) := by omega
      have hst3 : stI P M NN = sumS (xs.map aP) := by rw [hst, List.take_of_length_le (by first | omega | (simp; omega))]
      have hV3 : sumV K ((xs.map aP).take i) = sumV K (xs.map aP) := by rw [List.take_of_length_le (by first | omega | (simp; omega))]
      rw [hV3] at hD
      have hnr := hNb r (Or.inr rfl)
      obtain ⟨r0, r1, r2, r3, r4, r5, r6, r7, r8, r9, r10, r11, r12, r13⟩ := id h7
      obtain ⟨t0, t1, t2, t3, t4, t5, t6, t7, t8, t9, t10, t11, t12, t13⟩ := id hR
      have HH : Hid (Dy 0 wr s1 p1 l1 c1 q1 k1 d1 (sumV K (xs.map aP)) (K + K) ∧ stI P M NN = sumS (xs.map aP) ∧ H7c wr r (.bool false) (.slice none 0 0) (.slice none 0 0) (.bool false) (.bool false) (.bool false) (.int .u64 0)) := ⟨hD, hst3, hR⟩
      clear hN hl ha hi hiN ci hD hNb hx hK HN HW hst h7 hst3 hV3 hR hle
      go_wp2
      obtain ⟨hD, hst3, hR⟩ := HH.out
      have hp := H7c.put hR (.bool s1) (.slice p1 l1 c1) (.slice q1 k1 d1) (.bool P) (.bool M) (.bool NN) (.int .u64 (i : Int))
      clear t0 t1 t2 t3 t4 t5 t6 t7 t8 t9 t10 t11 t12 t13
      obtain ⟨z0, z1, z2, z3, z4, z5, z6, z7, z8, z9, z10, z11, z12, z13⟩ := id hp
      refine bodyPost_ret (v := .agg #[.bool s1, .slice p1 l1 c1, .slice q1 k1 d1, .bool P, .bool M, .bool NN, .int .u64 (i : Int)]) (by simp [results, Tryz.results8, go_sem, z0, z1, z2, z3, z4, z5, z6]) rfl ⟨s1, p1, l1, c1, q1, k1, d1, P, M, NN, _, rfl, ?_, hst3, ?_⟩
      · exact (Dy.setNe (Dy.setNe (Dy.setNe (Dy.setNe (Dy.setNe (Dy.setNe (Dy.setNe hD (x := ⟨r, 0, none⟩) hnr _) (x := ⟨r, 1, none⟩) hnr _) (x := ⟨r, 2, none⟩) hnr _) (x := ⟨r, 3, none⟩) hnr _) (x := ⟨r, 4, none⟩) hnr _) (x := ⟨r, 5, none⟩) hnr _) (x := ⟨r, 6, none⟩) hnr _)
      · exact (((((((hk.setCell hr0 _).setCell hr0 _).setCell hr0 _).setCell hr0 _).setCell hr0 _).setCell hr0 _).setCell hr0 _)
end Go.Proofs.YtokhnokobkmmkaaGreatDoor
namespace Go.Proofs.YtokhnokobkmmkaaGreatDoor
open Go.RowKit
set_option maxRecDepth 20000 in
set_option maxHeartbeats 2000000 in
theorem rof24_ (K : Nat) (hK : K = 1074) (p : Option Addr) (c : Nat) (xs : List Nat) (hx : ∀ x ∈ xs, x < 18446744073709551616) (hl : xs.length ≤ 1048576) (w : World) (ha : ArrU w p xs) : Calls Tryz.prog 8 #[.int .i64 2, .slice p xs.length c] w fun e w' => OfR K (dotV xs xs) (dotS xs xs) w e w' := by
  have hnew := new4_ K
  obtain ⟨N, hN⟩ : ∃ N, N = xs.length := ⟨_, rfl⟩
  rw [← hN] at hl ⊢
  have HN : Hid (N = xs.length ∧ N ≤ 1048576 ∧ ArrU w p xs ∧ K = 1074) := ⟨hN, hl, ha, hK⟩
  have HW : Hid (∀ x ∈ xs, x < 18446744073709551616) := hx
  have h9 : H7c (w.alloc (.cells #[.bool false, .slice none 0 0, .slice none 0 0, .bool false, .bool false, .bool false, .int .u64 0] 30)) w.heap.size (.bool false) (.slice none 0 0) (.slice none 0 0) (.bool false) (.bool false) (.bool false) (.int .u64 0) := H7c.new w (.bool false) (.slice none 0 0) (.slice none 0 0) (.bool false) (.bool false) (.bool false) (.int .u64 0) 30
  have k9 : Kp w (w.alloc (.cells #[.bool false, .slice none 0 0, .slice none 0 0, .bool false, .bool false, .bool false, .int .u64 0] 30)) := (Kp.refl w).alloc _
  clear hN hl ha hK hx
  go_enter Tryz.func8, Tryz.ntmps8
  go_wp2_with (first | (go_at_call 30; refine (hnew _).mono ?_; rintro e W1 ⟨v, rfl, hz, g1⟩; obtain ⟨s1, p1, l1, c1, q1, k1, d1, rfl, hD, hNb⟩ := hz (fun g => g = W1.heap.size ∨ g = w.heap.size) (fun g hg => hg.elim (fun h => Or.inl (Nat.le_of_eq h.symm)) (fun h => Or.inr (by rw [h]; simp)))))
  have hS0 : Sz (fun g => g = W1.heap.size ∨ g = w.heap.size) (W1.alloc (.cells #[.bool s1, .slice p1 l1 c1, .slice q1 k1 d1, .bool false, .bool false, .bool false, .int .u64 0] 30)) W1.heap.size 0 K 0 false false false := ⟨s1, p1, l1, c1, q1, k1, d1, H7c.new W1 (.bool s1) (.slice p1 l1 c1) (.slice q1 k1 d1) (.bool false) (.bool false) (.bool false) (.int .u64 0) 30, hD.kp ((Kp.refl _).alloc _), hNb⟩
  have k0 : Kp w (W1.alloc (.cells #[.bool s1, .slice p1 l1 c1, .slice q1 k1 d1, .bool false, .bool false, .bool false, .int .u64 0] 30)) := (k9.trans g1).alloc _
  have hR0 : H7c (W1.alloc (.cells #[.bool s1, .slice p1 l1 c1, .slice q1 k1 d1, .bool false, .bool false, .bool false, .int .u64 0] 30)) w.heap.size (.bool false) (.slice none 0 0) (.slice none 0 0) (.bool false) (.bool false) (.bool false) (.int .u64 0) := (h9.keep g1).keep ((Kp.refl _).alloc _)
  have hle : w.heap.size < W1.heap.size := Nat.lt_of_lt_of_le h9.lt g1.size
  have hz0 : stI false false false = 0 := rfl
  clear hD hNb g1 hz hnew h9 k9
  generalize W1.heap.size = b at *
  obtain ⟨r, hr⟩ : ∃ r, r = w.heap.size := ⟨_, rfl⟩
  rw [← hr] at hS0 hR0 hle ⊢
  have hr0 : w.heap.size ≤ r := by rw [hr]; exact Nat.le_refl _
  clear hr
  go_loopw [6, 7] (fun ii xx wr => ∃ (i : Nat) (P M NN : Bool), ii = .int .i64 (i : Int) ∧ i ≤ N ∧ Sz (fun g => g = b ∨ g = r) wr b (dotV (xs.take i) (xs.take i)) K i P M NN ∧ stI P M NN = dotS (xs.take i) (xs.take i) ∧ H7c wr r (.bool false) (.slice none 0 0) (.slice none 0 0) (.bool false) (.bool false) (.bool false) (.int .u64 0) ∧ Kp w wr) (fun i _ _ => N - (intOf i).toNat)
  case atStart => exact ⟨0, false, false, false, rfl, Nat.zero_le _, by simpa [dotV] using hS0, by rw [hz0]; simp [dotS], hR0, k0⟩
  case round =>
    clear hS0 k0 hz0 hR0
    obtain ⟨i, P, M, NN, rfl, hi, ⟨s1, p1, l1, c1, q1, k1, d1, h7, hD, hNb⟩, hst, hR, hk⟩ := hrel
    obtain ⟨hN, hl, ha, hK⟩ := HN.out
    have hx := HW.out
    by_cases ci : i < N
    · have hxi := mem_lt hx i (by omega)
      rcases ha with ha | ⟨bx, off, rfl, ha⟩
      · rw [ha] at hN; simp at hN; omega
      have e1 := kkeep hk (ha i (by omega))
      have hlt := h7.lt
      have hV1 : (dotV (xs.take i) (xs.take i)).natAbs < 2 ^ 4287 := by
        have h1 := dotV_le K hK (xs.take i) (xs.take i)
        exact lt_wh (Nat.lt_of_le_of_lt h1 (tb_wh K _ hK (by simp; omega)))
      have hV2 : (yV (xs.getD i 0) (xs.getD i 0)).natAbs < 2 ^ 4287 := by
        have h1 := yV_le (xs.getD i 0) (xs.getD i 0) K hK
        have h2 := tb_wh K 1 hK (by omega)
        rw [Nat.one_mul] at h2
        exact lt_wh (Nat.lt_of_le_of_lt h1 h2)
      have hmu := refmul_ (xs.getD i 0) (xs.getD i 0) K 4287 hK hxi hxi (by omega) _ (dotV (xs.take i) (xs.take i)) i (by omega) P M NN hV1 hV2 (fun g => g = b ∨ g = r) wr (fun g hg => by rcases hg with rfl | rfl; exact hlt; omega) ⟨s1, p1, l1, c1, q1, k1, d1, rfl, hD, hNb⟩
      have hst2 : stI (P || yP (xs.getD i 0) (xs.getD i 0)) (M || yM (xs.getD i 0) (xs.getD i 0)) (NN || yN (xs.getD i 0) (xs.getD i 0)) = dotS (xs.take (i + 1)) (xs.take (i + 1)) := by
        unfold yP yM yN
        rw [stI_jn _ _ _ _ (yS_cases _ _), hst, dotS_take xs xs i rfl (by omega)]
      rw [← dotV_take xs xs i rfl (by omega)] at hmu
      generalize hV : dotV (xs.take (i + 1)) (xs.take (i + 1)) = VV at *
      have hV : Hid (dotV (xs.take (i + 1)) (xs.take (i + 1)) = VV) := hV
      generalize (P || yP (xs.getD i 0) (xs.getD i 0)) = PP at *
      generalize (M || yM (xs.getD i 0) (xs.getD i 0)) = MM at *
      generalize (NN || yN (xs.getD i 0) (xs.getD i 0)) = NX at *
      obtain ⟨X, hX⟩ : ∃ X, X = xs.getD i 0 := ⟨_, rfl⟩
      rw [← hX] at hmu e1 hxi
      have hX2 := hxi
      have j1 : (i : Int) < (N : Int) := by omega
      have j2 : i + 1 ≤ N := by omega
      have j3 : N - (i + 1) < N - i := by omega
      have j4 : i < 1048576 := by omega
      obtain ⟨r0, r1, r2, r3, r4, r5, r6, r7, r8, r9, r10, r11, r12, r13⟩ := id h7
      have HH : Hid (H7c wr b (.bool s1) (.slice p1 l1 c1) (.slice q1 k1 d1) (.bool P) (.bool M) (.bool NN) (.int .u64 (i : Int)) ∧ Kp w wr ∧ r < b ∧ w.heap.size ≤ r ∧ stI PP MM NX = dotS (xs.take (i + 1)) (xs.take (i + 1)) ∧ H7c wr r (.bool false) (.slice none 0 0) (.slice none 0 0) (.bool false) (.bool false) (.bool false) (.int .u64 0)) := ⟨h7, hk, hle, hr0, hst2, hR⟩
      clear hN hl ha hi hxi hx HN HW hX hX2 hD hNb hst hK hV1 hV2 hlt hst2 hle hr0 hR
      go_wp2_with (first | (go_at_call 31; refine hmu.mono ?_; rintro e W3 ⟨v3, rfl, ⟨s3, p3, l3, c3, q3, k3, d3, rfl, D3, nb3⟩, g3⟩; have kw3 := hk.trans g3; have h73 := h7.keep g3; obtain ⟨u0, u1, u2, u3, u4, u5, u6, u7, u8, u9, u10, u11, u12, u13⟩ := id h73))
      obtain ⟨h7', hk', hle, hr0, hst2, hR⟩ := HH.out
      refine ⟨⟨i + 1, PP, MM, NX, by go_num, j2, ?_, hst2, ?_, ?_⟩, (show N - (i + 1) < N - i from j3)⟩
      · rw [hV.out]
        exact Sz.put (h7.keep g3) D3 nb3 (nb3 _ (Or.inl rfl))
      · exact (H7c.far1 (H7c.far1 (H7c.far1 (H7c.far1 (H7c.far1 (H7c.far1 (H7c.far1 (hR.keep g3) ⟨b, 0, none⟩ (show b ≠ r by omega) _) ⟨b, 1, none⟩ (show b ≠ r by omega) _) ⟨b, 2, none⟩ (show b ≠ r by omega) _) ⟨b, 3, none⟩ (show b ≠ r by omega) _) ⟨b, 4, none⟩ (show b ≠ r by omega) _) ⟨b, 5, none⟩ (show b ≠ r by omega) _) ⟨b, 6, none⟩ (show b ≠ r by omega) _)
      · exact kp_put7 kw3 (by omega) _ _ _ _ _ _ _
    · have hiN : i = N := by omega
      have t1 : ¬ ((i : Int) < (N : Int)) := by omega
      have hst3 : stI P M NN = dotS xs xs := by rw [hst, List.take_of_length_le (by first | omega | (simp; omega))]
      have hV3 : dotV (xs.take i) (xs.take i) = dotV xs xs := by rw [List.take_of_length_le (by first | omega | (simp; omega))]
      rw [hV3] at hD
      have hnr := hNb r (Or.inr rfl)
      obtain ⟨r0, r1, r2, r3, r4, r5, r6, r7, r8, r9, r10, r11, r12, r13⟩ := id h7
      obtain ⟨t0, t1, t2, t3, t4, t5, t6, t7, t8, t9, t10, t11, t12, t13⟩ := id hR
      have HH : Hid (Dy 0 wr s1 p1 l1 c1 q1 k1 d1 (dotV xs xs) (K + K) ∧ stI P M NN = dotS xs xs ∧ H7c wr r (.bool false) (.slice none 0 0) (.slice none 0 0) (.bool false) (.bool false) (.bool false) (.int .u64 0)) := ⟨hD, hst3, hR⟩
      clear hN hl ha hi hiN ci hD hNb hx hK HN HW hst h7 hst3 hV3 hR hle
      go_wp2
      obtain ⟨hD, hst3, hR⟩ := HH.out
      have hp := H7c.put hR (.bool s1) (.slice p1 l1 c1) (.slice q1 k1 d1) (.bool P) (.bool M) (.bool NN) (.int .u64 (i : Int))
      clear t0 t1 t2 t3 t4 t5 t6 t7 t8 t9 t10 t11 t12 t13
      obtain ⟨z0, z1, z2, z3, z4, z5, z6, z7, z8, z9, z10, z11, z12, z13⟩ := id hp
      refine bodyPost_ret (v := .agg #[.bool s1, .slice p1 l1 c1, .slice q1 k1 d1, .bool P, .bool M, .bool NN, .int .u64 (i : Int)]) (by simp [results, Tryz.results8, go_sem, z0, z1, z2, z3, z4, z5, z6]) rfl ⟨s1, p1, l1, c1, q1, k1, d1, P, M, NN, _, rfl, ?_, hst3, ?_⟩
      · exact (Dy.setNe (Dy.setNe (Dy.setNe (Dy.setNe (Dy.setNe (Dy.setNe (Dy.setNe hD (x := ⟨r, 0, none⟩) hnr _) (x := ⟨r, 1, none⟩) hnr _) (x := ⟨r, 2, none⟩) hnr _) (x := ⟨r, 3, none⟩) hnr _) (x := ⟨r, 4, none⟩) hnr _) (x := ⟨r, 5, none⟩) hnr _) (x := ⟨r, 6, none⟩) hnr _)
      · exact (((((((hk.setCell hr0 _).setCell hr0 _).setCell hr0 _).setCell hr0 _).setCell hr0 _).setCell hr0 _).setCell hr0 _)
end Go.Proofs.YtokhnokobkmmkaaGreatDoor
namespace Go.Proofs.YtokhnokobkmmkaaGreatDoor
open Go.RowKit
theorem rof4_ (k : Nat) (hk3 : k < 3) (K : Nat) (hK : K = 1074) (p : Option Addr) (c : Nat) (xs : List Nat) (hx : ∀ x ∈ xs, x < 18446744073709551616) (hl : xs.length ≤ 1048576) (w : World) (ha : ArrU w p xs) : Calls Tryz.prog 8 #[.int .i64 (k : Int), .slice p xs.length c] w fun e w' => OfR K (lV k K xs) (lS k xs) w e w' := by
  have hc : k = 0 ∨ k = 1 ∨ k = 2 := by omega
  unfold lV lS
  rcases hc with rfl | rfl | rfl
  · exact rof04_ K hK p c xs hx hl w ha
  · exact rof14_ K hK p c xs hx hl w ha
  · exact rof24_ K hK p c xs hx hl w ha
theorem lV_lt (k K : Nat) (hK : K = 1074) (xs : List Nat) (hl : xs.length ≤ 1048576) : (lV k K xs).natAbs < 2 ^ 4287 := by
  unfold lV
  by_cases a : k = 0
  · rw [if_pos a]; exact lt_wh (Nat.lt_of_le_of_lt (sumV_le K hK xs) (tb_wh K _ hK (by omega)))
  · rw [if_neg a]
    by_cases b : k = 1
    · rw [if_pos b]; exact lt_wh (Nat.lt_of_le_of_lt (sumV_le K hK (xs.map aP)) (tb_wh K _ hK (by simp; omega)))
    · rw [if_neg b]; exact lt_wh (Nat.lt_of_le_of_lt (dotV_le K hK xs xs) (tb_wh K _ hK (by omega)))
theorem rans4_ (d : Int) (k K : Nat) (hK : K = 1074) (xs : List Nat) (hl : xs.length ≤ 1048576) (s1 : Bool) (p1 : Option Addr) (l1 c1 : Nat) (q1 : Option Addr) (k1 d1 : Nat) (P M N : Bool) (T : Int) (w : World) (hD : Dy 0 w s1 p1 l1 c1 q1 k1 d1 (lV k K xs) (K + K)) (hs : stI P M N = lS k xs) : Calls Tryz.prog 7 #[.agg #[.bool s1, .slice p1 l1 c1, .slice q1 k1 d1, .bool P, .bool M, .bool N, .int .u64 T], .int .i64 d] w fun e w' => e = .returned (.int .u64 ((rdW d (lV k K xs) (lS k xs) : Nat) : Int)) ∧ Kp w w' := by
  have h := rround_ d s1 p1 l1 c1 q1 k1 d1 P M N T (lV k K xs) (K + K) K 4287 hK rfl (by omega) (lV_lt k K hK xs hl) 0 w hD
  rw [hs] at h
  exact h
end Go.Proofs.YtokhnokobkmmkaaGreatDoor
namespace Go.Proofs.YtokhnokobkmmkaaGreatDoor
open Go.RowKit
set_option maxRecDepth 20000 in
set_option maxHeartbeats 4000000 in
theorem tlists_ (d : Int) (hd1 : -9223372036854775808 ≤ d) (hd2 : d < 9223372036854775808) (K : Nat) (hK : K = 1074) (p : Option Addr) (c : Nat) (xs : List Nat) (hx : ∀ x ∈ xs, x < 18446744073709551616) (hl : xs.length ≤ 1048576) (w : World) (ha : ArrU w p xs) (hT : Tab w) (hQ : Fq.Tab w) : Calls Tryz.prog 3 #[.int .i64 d, .slice p xs.length c] w fun e w' => e = .returned (.bool true) ∧ Kp w w' := by
  have hov := othL_lt xs hx
  have hol := othL_len xs
  have hov4 := fun (W : World) (g0 c0 k : Nat) (hk3 : k < 3) (h : ArrU W (some ⟨g0, 0, none⟩) (othL xs)) => rof4_ k hk3 K hK (some ⟨g0, 0, none⟩) c0 (othL xs) hov (by rw [hol]; exact hl) W h
  have hpv := fun (W : World) (g1 g0 : Nat) (hne : g0 ≠ g1) (h : RwF W g1 (xs.length + 40) (xs ++ gdf)) (h2 : ArrU W (some ⟨g0, 0, none⟩) (othL xs)) => place4_ g1 (xs.length + 40) xs.length (some ⟨g0, 0, none⟩) xs (othL xs) gdf W h hol.symm (by rw [gdf_len]) h2 (fun b off hb _ => by simp at hb; omega) hl
  have hpa := fun (W : World) (g1 : Nat) (hz : w.heap.size ≤ g1) (h : RwF W g1 (xs.length + 40) (othL xs ++ gdf)) (h2 : ArrU W p xs) => place4_ g1 (xs.length + 40) c p (othL xs) xs gdf W h hol (by rw [gdf_len, hol]) h2 (arr_ne ha g1 hz) (by rw [hol]; exact hl)
  have hwv := fun (W : World) (g1 k : Nat) (hk3 : k < 3) (h : RwF W g1 (xs.length + 40) (othL xs ++ gdf)) (hT : Tab W) (hQ : Fq.Tab W) => whole4_ d hd1 hd2 K hK k hk3 (some ⟨g1, 0, none⟩) (xs.length + 40) (othL xs) hov (by rw [hol]; exact hl) W (h.front (by rw [hol]; omega)) hT hQ
  have hlv := fun (W : World) (g1 g0 : Nat) (h : RwF W g1 (xs.length + 40) (othL xs ++ gdf)) (h2 : ArrU W (some ⟨g0, 0, none⟩) (othL xs)) => left4_ (some ⟨g0, 0, none⟩) xs.length g1 (othL xs) W h2 (by rw [hol]; exact h) (by rw [hol]; exact hl)
  rw [hol] at hov4 hpv hpa hwv hlv
  have hk : Kp w w := Kp.refl w
  go_enter Tryz.func3, Tryz.ntmps3
  go_wp2_with fail
  refine (other4_ p c xs _ (ha.kp hk) hx hl).mono ?_
  rintro e v1 ⟨g0, rfl, hg0, r0, g⟩
  replace hk := hk.trans g
  clear g hg0
  go_wp2_with fail
  have HA : Hid (RwU v1 g0 xs.length (othL xs) ∧ Kp w v1) := ⟨r0, hk⟩
  clear r0 hk
  go_loopw [6, 7, 8, 9] (fun kk a b c9 wr => ∃ k : Nat, kk = .int .i64 (k : Int) ∧ k ≤ 3 ∧ RwU wr g0 xs.length (othL xs) ∧ Kp w wr) (fun kk _ _ _ _ => 3 - (intOf kk).toNat)
  case atStart => exact ⟨0, rfl, by omega, HA.out.1, HA.out.2⟩
  case round =>
    obtain ⟨k, rfl, hk9, r0, hk⟩ := hrel
    clear HA
    by_cases hk3 : k < 3
    · have j1 : (k : Int) < 3 := by omega
      have j2 : 3 - (k + 1) < 3 - k := by omega
      clear hk9
      go_wp2_with fail
      refine (rof4_ k hk3 K hK p c xs hx hl _ (ha.kp hk)).mono ?_
      rintro e v2 ⟨s1, p1, l1, c1, q1, k1, d1, P, M, NN, TT, rfl, hD, hs, g⟩
      replace r0 := r0.kp g
      replace hk := hk.trans g
      clear g
      go_wp2_with fail
      refine (rans4_ d k K hK xs hl s1 p1 l1 c1 q1 k1 d1 P M NN TT _ hD hs).mono ?_
      rintro e v2 ⟨rfl, g⟩
      replace r0 := r0.kp g
      replace hk := hk.trans g
      clear g
      clear hD hs
      go_wp2_with fail
      refine (roomy4_ p c xs _ (ha.kp hk) hl).mono ?_
      rintro e v2 ⟨g1, rfl, hg1, r1, g⟩
      have hz1 : w.heap.size ≤ g1 := Nat.le_trans hk.size hg1
      have n01 : g0 ≠ g1 := by have := World.rowIs.lt r0; omega
      replace r0 := r0.kp g
      replace hk := hk.trans g
      clear g hg1
      go_wp2_with fail
      refine (whole4_ d hd1 hd2 K hK k hk3 (some ⟨g1, 0, none⟩) (xs.length + 40) xs hx hl _ (r1.front (by omega)) (hT.grown hk) (Fq.Tab.grown hQ hk)).mono ?_
      rintro e v2 ⟨rfl, g⟩
      replace r0 := r0.kp g
      replace r1 := r1.kp g
      replace hk := hk.trans g
      clear g
      go_wp2_with fail
      refine (left4_ p c g1 xs _ (ha.kp hk) r1 hl).mono ?_
      rintro e v2 ⟨rfl, g⟩
      replace r0 := r0.kp g
      replace r1 := r1.kp g
      replace hk := hk.trans g
      clear g
      go_wp2_with fail
      refine (whole4_ d hd1 hd2 K hK k hk3 (some ⟨g1, 0, none⟩) (xs.length + 40) xs hx hl _ (r1.front (by omega)) (hT.grown hk) (Fq.Tab.grown hQ hk)).mono ?_
      rintro e v2 ⟨rfl, g⟩
      replace r0 := r0.kp g
      replace r1 := r1.kp g
      replace hk := hk.trans g
      clear g
      go_wp2_with fail
      refine (hpv _ _ _ n01 r1 (r0.all (by rw [othL_len]; exact Nat.le_refl _))).mono ?_
      rintro e v2 ⟨v3, rfl, s1, kb⟩
      replace r0 := r0.kb kb n01
      replace hk := kb.kp hk hz1
      clear kb r1
      have r1 := s1
      clear s1
      go_wp2_with fail
      refine (hwv _ _ k hk3 r1 (hT.grown hk) (Fq.Tab.grown hQ hk)).mono ?_
      rintro e v2 ⟨rfl, g⟩
      replace r0 := r0.kp g
      replace r1 := r1.kp g
      replace hk := hk.trans g
      clear g
      go_wp2_with fail
      refine (hov4 _ _ _ k hk3 (r0.all (by rw [othL_len]; exact Nat.le_refl _))).mono ?_
      rintro e v2 ⟨s1, p1, l1, c1, q1, k1, d1, P, M, NN, TT, rfl, hD, hs, g⟩
      replace r0 := r0.kp g
      replace r1 := r1.kp g
      replace hk := hk.trans g
      clear g
      go_wp2_with fail
      refine (rans4_ d k K hK (othL xs) (by rw [hol]; exact hl) s1 p1 l1 c1 q1 k1 d1 P M NN TT _ hD hs).mono ?_
      rintro e v2 ⟨rfl, g⟩
      replace r0 := r0.kp g
      replace r1 := r1.kp g
      replace hk := hk.trans g
      clear g
      clear hD hs
      go_wp2_with fail
      refine (hlv _ _ _ r1 (r0.all (by rw [othL_len]; exact Nat.le_refl _))).mono ?_
      rintro e v2 ⟨rfl, g⟩
      replace r0 := r0.kp g
      replace r1 := r1.kp g
      replace hk := hk.trans g
      clear g
      go_wp2_with fail
      refine (hpa _ _ hz1 r1 (ha.kp hk)).mono ?_
      rintro e v2 ⟨v3, rfl, s1, kb⟩
      replace r0 := r0.kb kb n01
      replace hk := kb.kp hk hz1
      clear kb r1
      have r1 := s1
      clear s1
      go_wp2_with fail
      refine (whole4_ d hd1 hd2 K hK k hk3 (some ⟨g1, 0, none⟩) (xs.length + 40) xs hx hl _ (r1.front (by omega)) (hT.grown hk) (Fq.Tab.grown hQ hk)).mono ?_
      rintro e v2 ⟨rfl, g⟩
      replace r0 := r0.kp g
      replace r1 := r1.kp g
      replace hk := hk.trans g
      clear g
      go_wp2_with fail
      refine (left4_ p c g1 xs _ (ha.kp hk) r1 hl).mono ?_
      rintro e v2 ⟨rfl, g⟩
      replace r0 := r0.kp g
      replace r1 := r1.kp g
      replace hk := hk.trans g
      clear g
      go_wp2
      exact ⟨⟨k + 1, by go_num, by omega, r0, hk⟩, (show 3 - (k + 1) < 3 - k from j2)⟩
    · have j1 : ¬ ((k : Int) < 3) := by omega
      go_wp2_with fail
      refine (lives_ _ (hT.grown hk) (Fq.Tab.grown hQ hk)).mono ?_
      rintro e v2 ⟨rfl, g⟩
      go_wp2
      exact bodyPost_ret (v := .bool true) (by simp [results, Tryz.results3, go_sem]) rfl ⟨rfl, hk.trans g⟩
end Go.Proofs.YtokhnokobkmmkaaGreatDoor
