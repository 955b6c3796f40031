import Derived.Test.YtnjlcfpkhgmjeaaGreatDoorKTOp
import Derived.Deep.RegionHeld
import Derived.OrdersHeld
namespace Go.Proofs.YtnjlcfpkhgmjeaaGreatDoor
open Go.RowKit

set_option maxRecDepth 20000 in
set_option maxHeartbeats 400000 in
theorem fl4_ (x : Nat) (w : World) : Calls Tryz.prog 5 #[.int .u64 (x : Int)] w fun e w' => e = .returned (.float .f64 x) ∧ w' = w := by
  have h := Fq.ff64 x
  go_enter Tryz.func5, Tryz.ntmps5
  go_wp2
  exact bodyPost_ret (v := .float .f64 x) (by simp [results, Tryz.results5, go_sem]) rfl ⟨rfl, rfl⟩
set_option maxRecDepth 20000 in
set_option maxHeartbeats 400000 in
theorem bits4_ (X : Nat) (h : (FloatKind.f64.format.order X X != some .eq) = false) (w : World) : Calls Tryz.prog 8 #[.float .f64 X] w fun e w' => e = .returned (.int .u64 (X : Int)) ∧ w' = w := by
  have h2 := Fq.fb64 X
  go_enter Tryz.func8, Tryz.ntmps8
  go_wp2
  exact bodyPost_ret (v := .int .u64 (X : Int)) (by simp [results, Tryz.results8, go_sem]) rfl ⟨rfl, rfl⟩
theorem lv1 : fmaW 0 (0 + tV false 4607182418800017408 1074 + Iv false 1 * Iv false 4607182418800017408 + tV true 4607182418800017408 1074) = 1 := by decide +kernel
theorem lv2 : sgV (0 + tV false 4607182418800017408 1074 + Iv false 1 * Iv false 4607182418800017408 + tV true 4607182418800017408 1074) = 1 := by decide +kernel
theorem lv3 : ratW (-1) (decide ((0 + tV false 9218868437227405311 1074 + tV false 9218868437227405311 1074) < 0)) (0 + tV false 9218868437227405311 1074 + tV false 9218868437227405311 1074).natAbs 2 (-2148) = 9218868437227405311 := by decide +kernel
theorem lv4 : fmaW 1 (0 + tV false 9218868437227405311 1074 + tV false 9218868437227405311 1074) = 9218868437227405312 := by decide +kernel
theorem lo1 : (FloatKind.f64.format.order 1 1 != some .eq) = false := by decide +kernel
theorem lo2 : (FloatKind.f64.format.order 9218868437227405311 9218868437227405311 != some .eq) = false := by decide +kernel
theorem lo3 : (FloatKind.f64.format.order 9218868437227405312 9218868437227405312 != some .eq) = false := by decide +kernel
theorem Kb.ne {g : Nat} {a w w' : World} (h : Kb g w w') (k : Kp a w) (hg : a.heap.size ≤ g) : Kp a w' := Kb.kp h k hg
set_option maxRecDepth 20000 in
set_option maxHeartbeats 2000000 in
theorem lives_ (w : World) (hT : Tab w) (hQ : Fq.Tab w) : Calls Tryz.prog 13 #[] w fun e w' => e = .returned (.bool true) ∧ Kp w w' := by
  have hnw := fnew_ 1074
  have hfl1 := fl4_ 1
  have hfl2 := fl4_ 4607182418800017408
  have hfl3 := fl4_ 9218868437227405311
  have hb1 := bits4_ 1 lo1
  have hb2 := bits4_ 9218868437227405311 lo2
  have hb3 := bits4_ 9218868437227405312 lo3
  have ha1 := fun (b : Nat) (V : Int) (k : Nat) (hk : k < 4611686018427387904) => fadd_ false 4607182418800017408 (by decide) 1074 rfl b V k hk
  have ha2 := fun (b : Nat) (V : Int) (k : Nat) (hk : k < 4611686018427387904) => fadd_ true 4607182418800017408 (by decide) 1074 rfl b V k hk
  have ha3 := fun (b : Nat) (V : Int) (k : Nat) (hk : k < 4611686018427387904) => fadd_ false 9218868437227405311 (by decide) 1074 rfl b V k hk
  have hm1 := fun (b : Nat) (V : Int) (k : Nat) (hk : k < 4611686018427387904) => fmul_ false false 1 4607182418800017408 (by decide) (by decide) 1074 rfl b V k hk
  rw [show Fq.wD false 4607182418800017408 = 4607182418800017408 from rfl] at ha1 hm1
  rw [show Fq.wD true 4607182418800017408 = 13830554455654793216 from rfl] at ha2
  rw [show Fq.wD false 9218868437227405311 = 9218868437227405311 from rfl] at ha3
  rw [show Fq.wD false 1 = 1 from rfl] at hm1
  have hr1 := fun (b : Nat) (V : Int) (k : Nat) => fround_ 0 (by decide) (by decide) 1074 rfl b V k
  have hr2 := fun (b : Nat) (V : Int) (k : Nat) => fround_ 1 (by decide) (by decide) 1074 rfl b V k
  have ho1 := fun (b : Nat) (V : Int) (k : Nat) => fover_ (-1) (by decide) (by decide) 2 (by decide) (by decide) 1074 rfl b V k
  have hs1 := fun (b : Nat) (V : Int) (k : Nat) => fsign_ 1074 rfl b V k
  have hs2 := fun (b : Nat) (V : Int) (k : Nat) => fstate_ 1074 b V k
  go_enter Tryz.func13, Tryz.ntmps13
  go_wp2_with fail
  refine (hnw _).mono ?_; rintro e w1 ⟨rfl, s1, g1⟩
  go_wp2_with fail
  refine (hnw _).mono ?_; rintro e w2 ⟨rfl, t1, g2⟩
  have hne : w.heap.size ≠ w1.heap.size := by have := s1.lt; omega
  have hz1 : w.heap.size ≤ w1.heap.size := g1.size
  replace s1 := s1.kp g2
  have kw := g1.trans g2
  have hz0 : w.heap.size ≤ w.heap.size := Nat.le_refl _
  clear g1 g2 hnw
  generalize w1.heap.size = b2 at *
  generalize hb9 : w.heap.size = b1 at s1 hne ⊢
  rw [hb9] at hz0
  have hz0 : w.heap.size ≤ b1 := by rw [hb9]; exact hz0
  clear hb9
  go_wp2_with fail
  refine (ha1 b1 _ 0 (by decide) _ s1).mono ?_; rintro e w3 ⟨⟨v3, rfl⟩, s2, k3⟩
  replace t1 := t1.kb k3 (Ne.symm hne)
  replace kw := k3.kp kw hz0
  clear k3 s1
  go_wp2_with fail
  refine (hfl1 _).mono ?_; rintro e w' ⟨rfl, hw'⟩; obtain rfl := hw'.symm; clear hw'
  go_wp2_with fail
  refine (hfl2 _).mono ?_; rintro e w' ⟨rfl, hw'⟩; obtain rfl := hw'.symm; clear hw'
  go_wp2_with fail
  refine (hm1 b1 _ 1 (by decide) _ s2).mono ?_; rintro e w4 ⟨⟨v4, rfl⟩, s3, k4⟩
  replace t1 := t1.kb k4 (Ne.symm hne)
  replace kw := k4.kp kw hz0
  clear k4 s2
  go_wp2_with fail
  refine (ha2 b1 _ 2 (by decide) _ s3).mono ?_; rintro e w5 ⟨⟨v5, rfl⟩, s4, k5⟩
  replace t1 := t1.kb k5 (Ne.symm hne)
  replace kw := k5.kp kw hz0
  clear k5 s3
  go_wp2_with fail
  refine (hfl3 _).mono ?_; rintro e w' ⟨rfl, hw'⟩; obtain rfl := hw'.symm; clear hw'
  go_wp2_with fail
  refine (ha3 b2 _ 0 (by decide) _ t1).mono ?_; rintro e w6 ⟨⟨v6, rfl⟩, t2, k6⟩
  replace s4 := s4.kb k6 hne
  replace kw := k6.kp kw hz1
  clear k6 t1
  go_wp2_with fail
  refine (hfl3 _).mono ?_; rintro e w' ⟨rfl, hw'⟩; obtain rfl := hw'.symm; clear hw'
  go_wp2_with fail
  refine (ha3 b2 _ 1 (by decide) _ t2).mono ?_; rintro e w7 ⟨⟨v7, rfl⟩, t3, k7⟩
  replace s4 := s4.kb k7 hne
  replace kw := k7.kp kw hz1
  clear k7 t2
  have q1 := hr1 b1 _ _ _ s4 (hT.grown kw) (Fq.Tab.grown hQ kw)
  rw [lv1] at q1
  go_wp2_with fail
  refine q1.mono ?_; rintro e w8 ⟨rfl, g8⟩
  replace kw := kw.trans g8
  replace s4 := s4.kp g8
  replace t3 := t3.kp g8
  clear g8 q1
  go_wp2_with fail
  refine (hb1 _).mono ?_; rintro e w' ⟨rfl, hw'⟩; obtain rfl := hw'.symm; clear hw'
  have q2 := hs1 b1 _ _ _ s4
  rw [lv2] at q2
  go_wp2_with fail
  refine q2.mono ?_; rintro e w9 ⟨rfl, g9⟩
  replace kw := kw.trans g9
  replace s4 := s4.kp g9
  replace t3 := t3.kp g9
  clear g9 q2
  go_wp2_with fail
  refine (hs2 b1 _ _ _ s4).mono ?_; rintro e w' ⟨rfl, hw'⟩; obtain rfl := hw'.symm; clear hw'
  have q3 := ho1 b2 _ _ _ t3 (Fq.Tab.grown hQ kw)
  rw [lv3] at q3
  go_wp2_with fail
  refine q3.mono ?_; rintro e w10 ⟨rfl, g10⟩
  replace kw := kw.trans g10
  replace t3 := t3.kp g10
  clear g10 q3
  go_wp2_with fail
  refine (hb2 _).mono ?_; rintro e w' ⟨rfl, hw'⟩; obtain rfl := hw'.symm; clear hw'
  have q4 := hr2 b2 _ _ _ t3 (hT.grown kw) (Fq.Tab.grown hQ kw)
  rw [lv4] at q4
  go_wp2_with fail
  refine q4.mono ?_; rintro e w11 ⟨rfl, g11⟩
  replace kw := kw.trans g11
  clear g11 q4
  go_wp2_with fail
  refine (hb3 _).mono ?_; rintro e w' ⟨rfl, hw'⟩; obtain rfl := hw'.symm; clear hw'
  go_wp2
  exact bodyPost_ret (v := .bool true) (by simp [results, Tryz.results13, go_sem]) rfl ⟨rfl, kw⟩

def St (w : World) (b : Nat) (V : Int) (k : Nat) (s : Int) : Prop := ∃ ws, Rep ws V ∧ Sb w b ws k s
theorem St.kp {w w' : World} {b : Nat} {V : Int} {k : Nat} {s : Int} (h : St w b V k s) (g : Kp w w') : St w' b V k s := by
  obtain ⟨ws, h1, h2⟩ := h; exact ⟨ws, h1, h2.kp g⟩
theorem St.kb {w w' : World} {b c : Nat} {V : Int} {k : Nat} {s : Int} (h : St w b V k s) (g : Kb c w w') (hne : b ≠ c) : St w' b V k s := by
  obtain ⟨ws, h1, h2⟩ := h; exact ⟨ws, h1, h2.kb g hne⟩
theorem St.lt {w : World} {b : Nat} {V : Int} {k : Nat} {s : Int} (h : St w b V k s) : b < w.heap.size := by
  obtain ⟨ws, h1, h2⟩ := h; exact h2.2.lt
def xV (X K : Nat) : Int := if X % 9223372036854775808 < 9218868437227405312 then tV (decide (9223372036854775808 ≤ X)) (X % 9223372036854775808) K else 0
def xS (X : Nat) : Int := tS (decide (9223372036854775808 ≤ X)) (X % 9223372036854775808)
theorem wD_parts (n : Bool) (m : Nat) (hm : m < 9223372036854775808) : Fq.wD n m % 9223372036854775808 = m ∧ decide (9223372036854775808 ≤ Fq.wD n m) = n := by
  unfold Fq.wD
  cases n
  · simp; omega
  · simp; omega
theorem stadd_ (X K : Nat) (hK : K = 1074) (hX : X < 18446744073709551616) (b : Nat) (V : Int) (k : Nat) (s : Int) (hk : k < 4611686018427387904) (w : World) (h : St w b V k s) : Calls Tryz.prog 15 #[.pointer (some ⟨b, 0, none⟩), .float .f64 X] w fun e w' => (∃ v, e = .returned v) ∧ St w' b (V + xV X K) (k + 1) (jn s (xS X)) ∧ Kb b w w' := by
  obtain ⟨ws, h1, h2⟩ := h
  obtain ⟨n, m, hm, rfl⟩ := Fq.exD X hX
  obtain ⟨p1, p2⟩ := wD_parts n m hm
  have e1 : (k + 1) % 18446744073709551616 = k + 1 := Nat.mod_eq_of_lt (by omega)
  have e2 : ∀ S : Int, grS (k + 1) S = S := fun S => by unfold grS; rw [if_neg (by omega)]
  unfold xV xS
  rw [p1, p2]
  by_cases c : m < 9218868437227405312
  · rw [if_pos c, fin0 n m c]
    refine (add_ n m K hK c b ws V h1 k s w h2).mono ?_
    rintro e w' ⟨us, hv, hS, hR, g⟩
    rw [e1, e2] at hS
    exact ⟨hv, ⟨us, hR, hS⟩, g⟩
  · rw [if_neg c, Int.add_zero]
    refine (addX_ n m (by omega) hm b ws k s w h2).mono ?_
    rintro e w' ⟨hv, hS, g⟩
    rw [e1, e2] at hS
    exact ⟨hv, ⟨ws, h1, hS⟩, g⟩
theorem xV_le (X K : Nat) (hK : K = 1074) : (xV X K).natAbs ≤ tb K := by
  unfold xV
  by_cases c : X % 9223372036854775808 < 9218868437227405312
  · rw [if_pos c]; exact tV_le _ _ K hK c
  · rw [if_neg c]; simp
def ArrF (w : World) (p : Option Addr) (xs : List Nat) : Prop := xs = [] ∨ ∃ b off, p = some ⟨b, off, none⟩ ∧ ∀ j, j < xs.length → w.cell? ⟨b, off + j, none⟩ = some (.float .f64 (xs.getD j 0))
def sumV (K : Nat) : List Nat → Int
  | [] => 0
  | x :: xs => xV x K + sumV K xs
theorem sumV_take (K : Nat) (xs : List Nat) : ∀ i, i < xs.length → sumV K (xs.take (i + 1)) = sumV K (xs.take i) + xV (xs.getD i 0) K := by
  induction xs with
  | nil => intro i h; simp at h
  | cons x xs ih =>
    intro i h
    cases i with
    | zero => simp [sumV]
    | succ i =>
      have e := ih i (by simpa using h)
      simp only [List.take_succ_cons, sumV, List.getD_cons_succ] at e ⊢
      rw [e]; omega
def sumS (xs : List Nat) : Int := xs.foldl (fun s x => jn s (xS x)) 0
theorem sumS_take (xs : List Nat) (i : Nat) (h : i < xs.length) : sumS (xs.take (i + 1)) = jn (sumS (xs.take i)) (xS (xs.getD i 0)) := by
  unfold sumS
  rw [List.take_add_one, List.foldl_append]
  simp [List.getD, h]
theorem sumV_le (K : Nat) (hK : K = 1074) (xs : List Nat) : (sumV K xs).natAbs ≤ xs.length * tb K := by
  induction xs with
  | nil => simp [sumV]
  | cons x xs ih =>
    have := xV_le x K hK
    simp only [sumV, List.length_cons, Nat.add_mul, Nat.one_mul]
    generalize xs.length * tb K = P at *
    generalize tb K = Q at *
    omega

def rdW (d V s : Int) : Nat := if s = 0 then fmaW d V else limW s
theorem stround_ (d : Int) (hd1 : -9223372036854775808 ≤ d) (hd2 : d < 9223372036854775808) (b : Nat) (V : Int) (k : Nat) (s : Int) (hb : V.natAbs < wh) (w : World) (h : St w b V k s) (hT : Tab w) (hQ : Fq.Tab w) : Calls Tryz.prog 18 #[.pointer (some ⟨b, 0, none⟩), .int .i64 d] w fun e w' => e = .returned (.float .f64 (rdW d V s)) ∧ Kp w w' := by
  obtain ⟨ws, h1, h2⟩ := h
  unfold rdW
  by_cases c : s = 0
  · rw [if_pos c]; subst c; exact roundF_ d hd1 hd2 b ws V h1 hb k w h2 hT hQ
  · rw [if_neg c]; exact roundX_ d b ws k s c w h2
theorem St.zero (w : World) : St (w.alloc (.cells (wc (List.replicate 67 0) ++ #[.int .u64 0, .int .i64 0]) 55)) w.heap.size 0 0 0 := ⟨_, Rep.zero, Sb.zero w⟩
set_option maxRecDepth 20000 in
set_option maxHeartbeats 1000000 in
theorem total_ (d : Int) (hd1 : -9223372036854775808 ≤ d) (hd2 : d < 9223372036854775808) (K : Nat) (hK : K = 1074) (p : Option Addr) (c : Nat) (xs : List Nat) (hx : ∀ x ∈ xs, x < 18446744073709551616) (hl : xs.length ≤ 1048576) (w : World) (ha : ArrF w p xs) (hT : Tab w) (hQ : Fq.Tab w) : Calls Tryz.prog 9 #[.int .i64 d, .slice p xs.length c] w fun e w' => e = .returned (.float .f64 (rdW d (sumV K xs) (sumS xs))) ∧ Kp w w' := by
  have hz := zeroS
  have hst := St.zero w
  have hs : (wc (List.replicate 67 0) ++ #[Value.int .u64 0, Value.int .i64 0]).size = 69 := by rw [Array.size_append, wc_size, List.length_replicate]; rfl
  generalize wc (List.replicate 67 0) ++ #[Value.int .u64 0, Value.int .i64 0] = Z at *
  have k1 : Kp w (w.alloc (.cells Z 55)) := (Kp.refl w).alloc _
  obtain ⟨N, hN⟩ : ∃ N, N = xs.length := ⟨_, rfl⟩
  rw [← hN] at hl ⊢
  have HN : Hid (N = xs.length ∧ N ≤ 1048576 ∧ ArrF w p xs) := ⟨hN, hl, ha⟩
  obtain ⟨g, hg⟩ : ∃ g, g = w.heap.size := ⟨_, rfl⟩
  have HG : Hid (g = w.heap.size) := hg
  rw [← hg] at hst
  clear hN hl ha
  go_enter Tryz.func9, Tryz.ntmps9
  go_wp2
  rw [← hg]
  clear hz hg
  go_loopw [10] (fun ii wr => ∃ i : Nat, ii = .int .i64 (i : Int) ∧ i ≤ N ∧ St wr g (sumV K (xs.take i)) i (sumS (xs.take i)) ∧ Kp w wr) (fun i _ => N - (intOf i).toNat)
  case atStart => exact ⟨0, rfl, Nat.zero_le _, by simpa [sumV, sumS] using hst, k1⟩
  case round =>
    clear hst k1
    obtain ⟨i, rfl, hi, hS, hk⟩ := hrel
    obtain ⟨hN, hl, ha⟩ := HN.out
    by_cases ci : i < N
    · have hxi : xs.getD i 0 < 18446744073709551616 := hx _ (by rw [List.getD_eq_getElem?_getD, List.getElem?_eq_getElem (by omega)]; exact List.getElem_mem _)
      rcases ha with ha | ⟨b, off, rfl, ha⟩
      · rw [ha] at hN; simp at hN; omega
      have e1 := kkeep hk (ha i (by omega))
      have had := stadd_ (xs.getD i 0) K hK hxi g _ i _ (by omega) wr hS
      rw [← sumV_take K xs i (by omega), ← sumS_take xs i (by omega)] at had
      obtain ⟨X, hX⟩ : ∃ X, X = xs.getD i 0 := ⟨_, rfl⟩
      rw [← hX] at e1 had
      clear hX
      have hz9 : w.heap.size ≤ g := by rw [HG.out]; exact Nat.le_refl _
      have j0 : (0 : Int) ≤ (i : Int) := by omega
      have j1 : (i : Int) < (N : Int) := by omega
      have j2 : i + 1 ≤ N := by omega
      have j3 : N - (i + 1) < N - i := by omega
      have j4 : i < 1048576 := by omega
      clear hN hl ha hi hxi hS hx
      go_wp2_with (first | (go_at_call 15; refine had.mono ?_; rintro e w1 ⟨⟨v1, rfl⟩, hS1, kb1⟩; have hk1 := kb1.kp hk hz9))
      exact ⟨⟨i + 1, by go_num, j2, hS1, hk1⟩, (show N - (i + 1) < N - i from j3)⟩
    · have hiN : i = N := by omega
      have hS : St wr g (sumV K xs) N (sumS xs) := by rw [hiN, List.take_of_length_le (by first | omega | (simp; omega))] at hS; exact hS
      have t1 : ¬ ((i : Int) < (N : Int)) := by omega
      have hle := sumV_le K hK xs
      have hrd := stround_ d hd1 hd2 g _ N _ (Nat.lt_of_le_of_lt hle (tb_wh K _ hK (by first | omega | (simp; omega)))) wr hS (hT.grown hk) (Fq.Tab.grown hQ hk)
      clear hN hl ha hi hiN ci hS hle hx hK
      go_wp2_with (first | (go_at_call 18; refine hrd.mono ?_; rintro e w2 ⟨rfl, g2⟩))
      exact bodyPost_ret (v := .float .f64 (rdW d (sumV K xs) (sumS xs))) (by simp [results, Tryz.results9, go_sem]) rfl ⟨rfl, hk.trans g2⟩
end Go.Proofs.YtnjlcfpkhgmjeaaGreatDoor
