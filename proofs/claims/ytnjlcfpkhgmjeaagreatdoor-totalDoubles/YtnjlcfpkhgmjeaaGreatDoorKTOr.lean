import Derived.Test.YtnjlcfpkhgmjeaaGreatDoorKTOo
namespace Go.Proofs.YtnjlcfpkhgmjeaaGreatDoor
open Go.RowKit

def tb (K : Nat) : Nat := 2 ^ (2 * K + 2048)
theorem iv_lt (n : Bool) (m K : Nat) (hK : K = 1074) (hm : m < 9218868437227405312) : (Iv n m).natAbs < 2 ^ (K + 1024) := by
  have h := (Fq.vV_lt_iff Ieee.double m 9218868437227405312).2 hm
  have e : Fq.vV Ieee.double 9218868437227405312 = 2 ^ (K + 1024) := by rw [hK]; decide +kernel
  rw [e] at h
  unfold Iv
  cases n <;> simp <;> omega
theorem tV_le (n : Bool) (m K : Nat) (hK : K = 1074) (hm : m < 9218868437227405312) : (tV n m K).natAbs ≤ tb K := by
  have h := iv_lt n m K hK hm
  unfold tV tb
  rw [Int.natAbs_mul, Int.natAbs_natCast, show 2 * K + 2048 = (K + 1024) + (K + 1024) by omega, Nat.pow_add 2 (K + 1024)]
  exact Nat.mul_le_mul (Nat.le_of_lt h) (Nat.pow_le_pow_right (by decide) (by omega))
theorem pV_le (n n' : Bool) (m m' K : Nat) (hK : K = 1074) (hm : m < 9218868437227405312) (hm' : m' < 9218868437227405312) : (Iv n m * Iv n' m').natAbs ≤ tb K := by
  have h := iv_lt n m K hK hm
  have h' := iv_lt n' m' K hK hm'
  unfold tb
  rw [Int.natAbs_mul, show 2 * K + 2048 = (K + 1024) + (K + 1024) by omega, Nat.pow_add 2 (K + 1024)]
  exact Nat.mul_le_mul (Nat.le_of_lt h) (Nat.le_of_lt h')
theorem tb_wh (K k : Nat) (hK : K = 1074) (hk : k ≤ 4611686018427387904) : k * tb K < wh := by
  have e : 4611686018427387904 * tb K < wh := by rw [hK]; decide +kernel
  exact Nat.lt_of_le_of_lt (Nat.mul_le_mul_right _ hk) e
def Fs (w : World) (b : Nat) (V : Int) (k K : Nat) : Prop := ∃ ws, Rep ws V ∧ Sb w b ws k 0 ∧ k ≤ 4611686018427387904 ∧ V.natAbs ≤ k * tb K
theorem Fs.lt {w : World} {b : Nat} {V : Int} {k K : Nat} (h : Fs w b V k K) : b < w.heap.size := by
  obtain ⟨ws, h1, h2, h3⟩ := h; exact h2.2.lt
theorem Fs.kp {w w' : World} {b : Nat} {V : Int} {k K : Nat} (h : Fs w b V k K) (g : Kp w w') : Fs w' b V k K := by
  obtain ⟨ws, h1, h2, h3⟩ := h; exact ⟨ws, h1, h2.kp g, h3⟩
theorem Fs.kb {w w' : World} {b c : Nat} {V : Int} {k K : Nat} (h : Fs w b V k K) (g : Kb c w w') (hne : b ≠ c) : Fs w' b V k K := by
  obtain ⟨ws, h1, h2, h3⟩ := h; exact ⟨ws, h1, h2.kb g hne, h3⟩
theorem grS0 (k : Nat) (h : k ≤ 4611686018427387904) : grS k (jn 0 0) = 0 := by unfold grS jn; rw [if_neg (by omega)]; rfl
theorem Fs.grow (k : Nat) (V T : Int) (K : Nat) (h1 : V.natAbs ≤ k * tb K) (h2 : T.natAbs ≤ tb K) : (V + T).natAbs ≤ (k + 1) * tb K := by
  rw [Nat.add_mul, Nat.one_mul]
  generalize k * tb K = P at *
  generalize tb K = Q at *
  omega
set_option maxRecDepth 20000 in
set_option maxHeartbeats 600000 in
theorem overF_ (d : Int) (hd1 : -9223372036854775808 ≤ d) (hd2 : d < 9223372036854775808) (N : Nat) (hN : 1 ≤ N) (hN2 : N < 9223372036854775808) (b : Nat) (ws : List Nat) (V : Int) (hV : Rep ws V) (hb : V.natAbs < wh) (k : Nat) (w : World) (hS : Sb w b ws k 0) (hQ : Fq.Tab w) : Calls Tryz.prog 40 #[.pointer (some ⟨b, 0, none⟩), .int .i64 d, .int .i64 (N : Int)] w fun e w' => e = .returned (.float .f64 (ratW d (decide (V < 0)) V.natAbs N (-2148))) ∧ Kp w w' := by
  have hnt : ∀ w : World, Calls Tryz.prog 47 #[.agg (wc ws)] w fun e w' => ∃ (v : Value) (xs : List Int), e = .returned (.tuple #[.bool (decide (V < 0)), v]) ∧ Own w' w.heap.size v xs ∧ Wd xs ∧ xs.length = 134 ∧ val xs = V.natAbs ∧ Kp w w' := fun w => by
    by_cases c : V < 0
    · rw [decide_eq_true c]; exact natN_ ws V hV hb c w
    · rw [decide_eq_false c]; exact natP_ ws V hV hb c w
  have hsm := nsmall_ N (by omega)
  have hrt : ∀ (w1 : World) (v : Value) (xs : List Int), Own w1 w.heap.size v xs → Wd xs → xs.length = 134 → val xs = V.natAbs → Kp w w1 → ∃ (p : Option Addr) (c : Nat), v = .slice p 134 c ∧ ∀ (w2 : World) (v2 : Value), Own w2 w1.heap.size v2 (dig N) → Kp w1 w2 → ∃ (p2 : Option Addr) (l2 c2 : Nat), v2 = .slice p2 l2 c2 ∧ Calls Tryz.prog 71 #[.int .i64 d, .bool (decide (V < 0)), .slice p 134 c, .slice p2 l2 c2, .int .i64 (-2148)] w2 fun e w' => e = .returned (.float .f64 (ratW d (decide (V < 0)) V.natAbs N (-2148))) ∧ Kp w2 w' := by
    intro w1 v xs ho hw hl hv g
    obtain ⟨p, c, rfl, hx, hc⟩ := ho.arr
    refine ⟨p, c, by rw [hl], fun w2 v2 ho2 g2 => ?_⟩
    obtain ⟨p2, c2, rfl, hy, hd⟩ := ho2.arr
    refine ⟨p2, _, c2, rfl, ?_⟩
    have hNl : (dig N).length ≤ 1048576 := by
      refine Nat.le_trans (m := 2) ?_ (by decide)
      show len32 N ≤ 2
      apply Classical.byContradiction
      intro h
      have := len32_lt N 2 (by omega)
      rw [show (4294967296 : Nat) ^ 2 = 18446744073709551616 from rfl] at this
      omega
    have := prat_ d (decide (V < 0)) p p2 c c2 xs (dig N) (-2148) w2 (Fq.Tab.grown hQ (g.trans g2)) hd1 hd2 (hx.grown g2) hy hw (Wd_dig N) (by omega) hNl hc hd
    rw [hl, hv, val_dig] at this
    exact this
  have c1 := hS.state
  have hld := loadS hS
  generalize ratW d (decide (V < 0)) V.natAbs N (-2148) = R at *
  generalize decide (V < 0) = ng at *
  have t1 : ¬ ((N : Int) < 1) := by omega
  have t2 : IntKind.u64.wrap (N : Int) = (N : Int) := by rw [IntKind.wrap_u64]; omega
  clear hV hb hQ hd1 hd2 hN hN2
  go_enter Tryz.func40, Tryz.ntmps40
  go_upto_region 5 with fail
  refine wp_region_list ?_
  refine wpl_val rfl _ rfl ?_
  refine wpl_val rfl _ rfl ?_
  refine wpl_field rfl _ _ _ rfl _ _ rfl (fa0 b _) ?_
  refine wpl_load rfl 53 _ rfl b 0 rfl _ hld ?_
  go_wp2_with (first | (go_at_call 47; refine (hnt _).mono ?_; rintro e w1 ⟨v, xs, rfl, ho, hwx, hxl, hvx, g1⟩; have hsm := hsm w1; have hrt := hrt w1 v xs ho hwx hxl hvx g1; obtain ⟨p, c, rfl, hrt⟩ := hrt; clear hxl hvx hwx ho) | (go_at_call 63; refine hsm.mono ?_; rintro e w2 ⟨v2, rfl, ho2, g2⟩; have hrt := hrt w2 v2 ho2 g2; obtain ⟨p2, l2, c2, rfl, hrt⟩ := hrt; clear ho2) | (go_at_call 71; refine hrt.mono ?_; rintro e w3 ⟨rfl, g3⟩))
  exact bodyPost_ret (v := .float .f64 R) (by simp [results, Tryz.results40, go_sem]) rfl ⟨rfl, (g1.trans g2).trans g3⟩
theorem fadd_ (n : Bool) (m : Nat) (hm : m < 9218868437227405312) (K : Nat) (hK : K = 1074) (b : Nat) (V : Int) (k : Nat) (hk : k < 4611686018427387904) (w : World) (h : Fs w b V k K) : Calls Tryz.prog 15 #[.pointer (some ⟨b, 0, none⟩), .float .f64 (Fq.wD n m)] w fun e w' => (∃ v, e = .returned v) ∧ Fs w' b (V + tV n m K) (k + 1) K ∧ Kb b w w' := by
  obtain ⟨ws, h1, h2, h3, h4⟩ := h
  refine (add_ n m K hK hm b ws V h1 k 0 w h2).mono ?_
  rintro e w' ⟨us, hv, hS, hR, g⟩
  rw [show (k + 1) % 18446744073709551616 = k + 1 from Nat.mod_eq_of_lt (by omega), grS0 (k + 1) (by omega)] at hS
  exact ⟨hv, ⟨us, hR, hS, by omega, Fs.grow k V _ K h4 (tV_le n m K hK hm)⟩, g⟩
theorem fmul_ (n n' : Bool) (m m' : Nat) (hm : m < 9218868437227405312) (hm' : m' < 9218868437227405312) (K : Nat) (hK : K = 1074) (b : Nat) (V : Int) (k : Nat) (hk : k < 4611686018427387904) (w : World) (h : Fs w b V k K) : Calls Tryz.prog 26 #[.pointer (some ⟨b, 0, none⟩), .float .f64 (Fq.wD n m), .float .f64 (Fq.wD n' m')] w fun e w' => (∃ v, e = .returned v) ∧ Fs w' b (V + Iv n m * Iv n' m') (k + 1) K ∧ Kb b w w' := by
  obtain ⟨ws, h1, h2, h3, h4⟩ := h
  refine (mul_ n n' m m' hm hm' b ws V h1 k 0 w h2).mono ?_
  rintro e w' ⟨us, hv, hS, hR, g⟩
  rw [show (k + 1) % 18446744073709551616 = k + 1 from Nat.mod_eq_of_lt (by omega), grS0 (k + 1) (by omega)] at hS
  exact ⟨hv, ⟨us, hR, hS, by omega, Fs.grow k V _ K h4 (pV_le n n' m m' K hK hm hm')⟩, g⟩

theorem fround_ (d : Int) (hd1 : -9223372036854775808 ≤ d) (hd2 : d < 9223372036854775808) (K : Nat) (hK : K = 1074) (b : Nat) (V : Int) (k : Nat) (w : World) (h : Fs w b V k K) (hT : Tab w) (hQ : Fq.Tab w) : Calls Tryz.prog 18 #[.pointer (some ⟨b, 0, none⟩), .int .i64 d] w fun e w' => e = .returned (.float .f64 (fmaW d V)) ∧ Kp w w' := by
  obtain ⟨ws, h1, h2, h3, h4⟩ := h
  exact roundF_ d hd1 hd2 b ws V h1 (Nat.lt_of_le_of_lt h4 (tb_wh K k hK h3)) k w h2 hT hQ
theorem fover_ (d : Int) (hd1 : -9223372036854775808 ≤ d) (hd2 : d < 9223372036854775808) (N : Nat) (hN : 1 ≤ N) (hN2 : N < 9223372036854775808) (K : Nat) (hK : K = 1074) (b : Nat) (V : Int) (k : Nat) (w : World) (h : Fs w b V k K) (hQ : Fq.Tab w) : Calls Tryz.prog 40 #[.pointer (some ⟨b, 0, none⟩), .int .i64 d, .int .i64 (N : Int)] w fun e w' => e = .returned (.float .f64 (ratW d (decide (V < 0)) V.natAbs N (-2148))) ∧ Kp w w' := by
  obtain ⟨ws, h1, h2, h3, h4⟩ := h
  exact overF_ d hd1 hd2 N hN hN2 b ws V h1 (Nat.lt_of_le_of_lt h4 (tb_wh K k hK h3)) k w h2 hQ
theorem fsign_ (K : Nat) (hK : K = 1074) (b : Nat) (V : Int) (k : Nat) (w : World) (h : Fs w b V k K) : Calls Tryz.prog 19 #[.pointer (some ⟨b, 0, none⟩)] w fun e w' => e = .returned (.int .i64 (sgV V)) ∧ Kp w w' := by
  obtain ⟨ws, h1, h2, h3, h4⟩ := h
  exact signF_ b ws V h1 (Nat.lt_of_le_of_lt h4 (tb_wh K k hK h3)) k w h2
theorem fstate_ (K : Nat) (b : Nat) (V : Int) (k : Nat) (w : World) (h : Fs w b V k K) : Calls Tryz.prog 17 #[.pointer (some ⟨b, 0, none⟩)] w fun e w' => e = .returned (.int .i64 0) ∧ w' = w := by
  obtain ⟨ws, h1, h2, h3, h4⟩ := h
  exact state_ b ws k 0 w h2
theorem fnew_ (K : Nat) (w : World) : Calls Tryz.prog 14 #[] w fun e w' => e = .returned (.pointer (some ⟨w.heap.size, 0, none⟩)) ∧ Fs w' w.heap.size 0 0 K ∧ Kp w w' := by
  refine (new_ w).mono ?_
  rintro e w' ⟨rfl, hS, g⟩
  exact ⟨rfl, ⟨_, Rep.zero, hS, by decide, by simp⟩, g⟩

set_option maxRecDepth 20000 in
set_option maxHeartbeats 400000 in
theorem fl4_ (x : Nat) (w : World) : Calls Tryz.prog 5 #[.int .u64 (x : Int)] w fun e w' => e = .returned (.float .f64 x) ∧ w' = w := by
  have h := Fq.ff64 x
  go_enter Tryz.func5, Tryz.ntmps5
  go_wp2
  exact bodyPost_ret (v := .float .f64 x) (by simp [results, Tryz.results5, go_sem]) rfl ⟨rfl, rfl⟩
set_option maxRecDepth 20000 in
set_option maxHeartbeats 400000 in
theorem bits4_ (X : Nat) (h : (FloatKind.f64.format.order X X != some .eq) = false) (w : World) : Calls Tryz.prog 8 #[.float .f64 X] w fun e w' => e = .returned (.int .u64 (X : Int)) ∧ w' = w := by
  have h2 := Fq.fb64 X
  go_enter Tryz.func8, Tryz.ntmps8
  go_wp2
  exact bodyPost_ret (v := .int .u64 (X : Int)) (by simp [results, Tryz.results8, go_sem]) rfl ⟨rfl, rfl⟩
theorem lv1 : fmaW 0 (0 + tV false 4607182418800017408 1074 + Iv false 1 * Iv false 4607182418800017408 + tV true 4607182418800017408 1074) = 1 := by decide +kernel
theorem lv2 : sgV (0 + tV false 4607182418800017408 1074 + Iv false 1 * Iv false 4607182418800017408 + tV true 4607182418800017408 1074) = 1 := by decide +kernel
theorem lv3 : ratW (-1) (decide ((0 + tV false 9218868437227405311 1074 + tV false 9218868437227405311 1074) < 0)) (0 + tV false 9218868437227405311 1074 + tV false 9218868437227405311 1074).natAbs 2 (-2148) = 9218868437227405311 := by decide +kernel
theorem lv4 : fmaW 1 (0 + tV false 9218868437227405311 1074 + tV false 9218868437227405311 1074) = 9218868437227405312 := by decide +kernel
theorem lo1 : (FloatKind.f64.format.order 1 1 != some .eq) = false := by decide +kernel
theorem lo2 : (FloatKind.f64.format.order 9218868437227405311 9218868437227405311 != some .eq) = false := by decide +kernel
theorem lo3 : (FloatKind.f64.format.order 9218868437227405312 9218868437227405312 != some .eq) = false := by decide +kernel
theorem Kb.ne {g : Nat} {a w w' : World} (h : Kb g w w') (k : Kp a w) (hg : a.heap.size ≤ g) : Kp a w' := Kb.kp h k hg
set_option maxRecDepth 20000 in
set_option maxHeartbeats 2000000 in
theorem lives_ (w : World) (hT : Tab w) (hQ : Fq.Tab w) : Calls Tryz.prog 13 #[] w fun e w' => e = .returned (.bool true) ∧ Kp w w' := by
  have hnw := fnew_ 1074
  have hfl1 := fl4_ 1
  have hfl2 := fl4_ 4607182418800017408
  have hfl3 := fl4_ 9218868437227405311
  have hb1 := bits4_ 1 lo1
  have hb2 := bits4_ 9218868437227405311 lo2
  have hb3 := bits4_ 9218868437227405312 lo3
  have ha1 := fun (b : Nat) (V : Int) (k : Nat) (hk : k < 4611686018427387904) => fadd_ false 4607182418800017408 (by decide) 1074 rfl b V k hk
  have ha2 := fun (b : Nat) (V : Int) (k : Nat) (hk : k < 4611686018427387904) => fadd_ true 4607182418800017408 (by decide) 1074 rfl b V k hk
  have ha3 := fun (b : Nat) (V : Int) (k : Nat) (hk : k < 4611686018427387904) => fadd_ false 9218868437227405311 (by decide) 1074 rfl b V k hk
  have hm1 := fun (b : Nat) (V : Int) (k : Nat) (hk : k < 4611686018427387904) => fmul_ false false 1 4607182418800017408 (by decide) (by decide) 1074 rfl b V k hk
  rw [show Fq.wD false 4607182418800017408 = 4607182418800017408 from rfl] at ha1 hm1
  rw [show Fq.wD true 4607182418800017408 = 13830554455654793216 from rfl] at ha2
  rw [show Fq.wD false 9218868437227405311 = 9218868437227405311 from rfl] at ha3
  rw [show Fq.wD false 1 = 1 from rfl] at hm1
  have hr1 := fun (b : Nat) (V : Int) (k : Nat) => fround_ 0 (by decide) (by decide) 1074 rfl b V k
  have hr2 := fun (b : Nat) (V : Int) (k : Nat) => fround_ 1 (by decide) (by decide) 1074 rfl b V k
  have ho1 := fun (b : Nat) (V : Int) (k : Nat) => fover_ (-1) (by decide) (by decide) 2 (by decide) (by decide) 1074 rfl b V k
  have hs1 := fun (b : Nat) (V : Int) (k : Nat) => fsign_ 1074 rfl b V k
  have hs2 := fun (b : Nat) (V : Int) (k : Nat) => fstate_ 1074 b V k
  go_enter Tryz.func13, Tryz.ntmps13
  go_wp2_with fail
  refine (hnw _).mono ?_; rintro e w1 ⟨rfl, s1, g1⟩
  go_wp2_with fail
  refine (hnw _).mono ?_; rintro e w2 ⟨rfl, t1, g2⟩
  have hne : w.heap.size ≠ w1.heap.size := by have := s1.lt; omega
  have hz1 : w.heap.size ≤ w1.heap.size := g1.size
  replace s1 := s1.kp g2
  have kw := g1.trans g2
  have hz0 : w.heap.size ≤ w.heap.size := Nat.le_refl _
  clear g1 g2 hnw
  generalize w1.heap.size = b2 at *
  generalize hb9 : w.heap.size = b1 at s1 hne ⊢
  rw [hb9] at hz0
  have hz0 : w.heap.size ≤ b1 := by rw [hb9]; exact hz0
  clear hb9
  go_wp2_with fail
  refine (ha1 b1 _ 0 (by decide) _ s1).mono ?_; rintro e w3 ⟨⟨v3, rfl⟩, s2, k3⟩
  replace t1 := t1.kb k3 (Ne.symm hne)
  replace kw := k3.kp kw hz0
  clear k3 s1
  go_wp2_with fail
  refine (hfl1 _).mono ?_; rintro e w' ⟨rfl, hw'⟩; obtain rfl := hw'.symm; clear hw'
  go_wp2_with fail
  refine (hfl2 _).mono ?_; rintro e w' ⟨rfl, hw'⟩; obtain rfl := hw'.symm; clear hw'
  go_wp2_with fail
  refine (hm1 b1 _ 1 (by decide) _ s2).mono ?_; rintro e w4 ⟨⟨v4, rfl⟩, s3, k4⟩
  replace t1 := t1.kb k4 (Ne.symm hne)
  replace kw := k4.kp kw hz0
  clear k4 s2
  go_wp2_with fail
  refine (ha2 b1 _ 2 (by decide) _ s3).mono ?_; rintro e w5 ⟨⟨v5, rfl⟩, s4, k5⟩
  replace t1 := t1.kb k5 (Ne.symm hne)
  replace kw := k5.kp kw hz0
  clear k5 s3
  go_wp2_with fail
  refine (hfl3 _).mono ?_; rintro e w' ⟨rfl, hw'⟩; obtain rfl := hw'.symm; clear hw'
  go_wp2_with fail
  refine (ha3 b2 _ 0 (by decide) _ t1).mono ?_; rintro e w6 ⟨⟨v6, rfl⟩, t2, k6⟩
  replace s4 := s4.kb k6 hne
  replace kw := k6.kp kw hz1
  clear k6 t1
  go_wp2_with fail
  refine (hfl3 _).mono ?_; rintro e w' ⟨rfl, hw'⟩; obtain rfl := hw'.symm; clear hw'
  go_wp2_with fail
  refine (ha3 b2 _ 1 (by decide) _ t2).mono ?_; rintro e w7 ⟨⟨v7, rfl⟩, t3, k7⟩
  replace s4 := s4.kb k7 hne
  replace kw := k7.kp kw hz1
  clear k7 t2
  have q1 := hr1 b1 _ _ _ s4 (hT.grown kw) (Fq.Tab.grown hQ kw)
  rw [lv1] at q1
  go_wp2_with fail
  refine q1.mono ?_; rintro e w8 ⟨rfl, g8⟩
  replace kw := kw.trans g8
  replace s4 := s4.kp g8
  replace t3 := t3.kp g8
  clear g8 q1
  go_wp2_with fail
  refine (hb1 _).mono ?_; rintro e w' ⟨rfl, hw'⟩; obtain rfl := hw'.symm; clear hw'
  have q2 := hs1 b1 _ _ _ s4
  rw [lv2] at q2
  go_wp2_with fail
  refine q2.mono ?_; rintro e w9 ⟨rfl, g9⟩
  replace kw := kw.trans g9
  replace s4 := s4.kp g9
  replace t3 := t3.kp g9
  clear g9 q2
  go_wp2_with fail
  refine (hs2 b1 _ _ _ s4).mono ?_; rintro e w' ⟨rfl, hw'⟩; obtain rfl := hw'.symm; clear hw'
  have q3 := ho1 b2 _ _ _ t3 (Fq.Tab.grown hQ kw)
  rw [lv3] at q3
  go_wp2_with fail
  refine q3.mono ?_; rintro e w10 ⟨rfl, g10⟩
  replace kw := kw.trans g10
  replace t3 := t3.kp g10
  clear g10 q3
  go_wp2_with fail
  refine (hb2 _).mono ?_; rintro e w' ⟨rfl, hw'⟩; obtain rfl := hw'.symm; clear hw'
  have q4 := hr2 b2 _ _ _ t3 (hT.grown kw) (Fq.Tab.grown hQ kw)
  rw [lv4] at q4
  go_wp2_with fail
  refine q4.mono ?_; rintro e w11 ⟨rfl, g11⟩
  replace kw := kw.trans g11
  clear g11 q4
  go_wp2_with fail
  refine (hb3 _).mono ?_; rintro e w' ⟨rfl, hw'⟩; obtain rfl := hw'.symm; clear hw'
  go_wp2
  exact bodyPost_ret (v := .bool true) (by simp [results, Tryz.results13, go_sem]) rfl ⟨rfl, kw⟩
end Go.Proofs.YtnjlcfpkhgmjeaaGreatDoor
