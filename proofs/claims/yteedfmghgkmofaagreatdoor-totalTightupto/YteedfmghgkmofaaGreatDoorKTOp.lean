import Derived.Test.YteedfmghgkmofaaGreatDoorKTOl
namespace Go.Proofs.YteedfmghgkmofaaGreatDoor
open Go.RowKit

theorem mul_val (n n' : Bool) (m m' : Nat) (hm : m < 9218868437227405312) (hm' : m' < 9218868437227405312) (E : Nat) (hE : Fq.epD m + Fq.epD m' + 2148 = (E : Int)) : sgI ((n && !(m == 0)) != (n' && !(m' == 0))) * (((Fq.sgD m * Fq.sgD m' / 18446744073709551616 * 18446744073709551616 + Fq.sgD m * Fq.sgD m' % 18446744073709551616) * 2 ^ E : Nat) : Int) = Iv n m * Iv n' m' := by
  obtain ⟨v1, v2, v3, v4, v5⟩ := Fq.vlsgD m hm
  obtain ⟨u1, u2, u3, u4, u5⟩ := Fq.vlsgD m' hm'
  have v1 : Fq.sgD m * 2 ^ (Fq.epD m + 1074).toNat = Fq.vV Ieee.double m := v1
  have u1 : Fq.sgD m' * 2 ^ (Fq.epD m' + 1074).toNat = Fq.vV Ieee.double m' := u1
  have e1 : E = (Fq.epD m + 1074).toNat + (Fq.epD m' + 1074).toNat := by omega
  rw [Nat.mul_comm (Fq.sgD m * Fq.sgD m' / 18446744073709551616), Nat.div_add_mod, e1, Nat.pow_add, show Fq.sgD m * Fq.sgD m' * (2 ^ (Fq.epD m + 1074).toNat * 2 ^ (Fq.epD m' + 1074).toNat) = (Fq.sgD m * 2 ^ (Fq.epD m + 1074).toNat) * (Fq.sgD m' * 2 ^ (Fq.epD m' + 1074).toNat) from Nat.mul_mul_mul_comm _ _ _ _, v1, u1]
  unfold Iv sgI
  by_cases z : m = 0
  · have z2 : Fq.vV Ieee.double m = 0 := by rw [← v1, v3.1 z, Nat.zero_mul]
    rw [z2]; simp
  · by_cases z' : m' = 0
    · have z2 : Fq.vV Ieee.double m' = 0 := by rw [← u1, u3.1 z', Nat.zero_mul]
      rw [z2]; simp
    · rw [show (n && !(m == 0)) = n from by simp [z], show (n' && !(m' == 0)) = n' from by simp [z'], Int.natCast_mul]
      cases n <;> cases n' <;> simp [Int.neg_mul, Int.mul_neg]
theorem wrapS (a c : Int) (h1 : -5000 ≤ a) (h2 : a ≤ 5000) (h3 : -5000 ≤ c) (h4 : c ≤ 5000) : wrap64 (a + c) = a + c := by unfold wrap64; omega
set_option maxRecDepth 20000 in
set_option maxHeartbeats 1000000 in
theorem mul_ (n n' : Bool) (m m' : Nat) (hm : m < 9218868437227405312) (hm' : m' < 9218868437227405312) (b : Nat) (ws : List Nat) (V : Int) (hV : Rep ws V) (k : Nat) (s : Int) (w : World) (hS : Sb w b ws k s) : Calls Tryz.prog 15 #[.pointer (some ⟨b, 0, none⟩), .float .f64 (Fq.wD n m), .float .f64 (Fq.wD n' m')] w fun e w' => ∃ ws' : List Nat, (∃ v, e = .returned v) ∧ Sb w' b ws' ((k + 1) % 18446744073709551616) (grS ((k + 1) % 18446744073709551616) (jn s 0)) ∧ Rep ws' (V + Iv n m * Iv n' m') ∧ Kb b w w' := by
  have hsp1 := Fq.split_d n m hm
  have hsp2 := Fq.split_d n' m' hm'
  obtain ⟨v1, v2, v3, v4, v5⟩ := Fq.vlsgD m hm
  obtain ⟨u1, u2, u3, u4, u5⟩ := Fq.vlsgD m' hm'
  obtain ⟨E, hE⟩ : ∃ E : Nat, Fq.epD m + Fq.epD m' + 2148 = (E : Int) := ⟨(Fq.epD m + Fq.epD m' + 2148).toNat, by omega⟩
  have hval := mul_val n n' m m' hm hm' E hE
  have hE2 : E = E / 64 * 64 + E % 64 := by omega
  have hs1 := sg64 _ v2
  have hs2 := sg64 _ u2
  have hm64 := mul64_ (Fq.sgD m) (Fq.sgD m') hs1 hs2
  have hlt : Fq.sgD m * Fq.sgD m' / 18446744073709551616 < 18446744073709551616 := Nat.div_lt_of_lt_mul (Nat.mul_lt_mul'' hs1 hs2)
  have hly := fun (w1 : World) (h1 : Bk w1 b (wc ws ++ #[.int .u64 (k : Int), .int .i64 s]) 54) => lay_ ((n && !(m == 0)) != (n' && !(m' == 0))) (Fq.sgD m * Fq.sgD m' / 18446744073709551616) (Fq.sgD m * Fq.sgD m' % 18446744073709551616) (E / 64) (E % 64) (Fq.epD m + Fq.epD m') hlt (Nat.mod_lt _ (by decide)) (by rw [hE, ← hE2]) (Nat.mod_lt _ (by decide)) (by omega) b ws _ _ V hV w1 h1
  rw [← hE2, hval] at hly
  have hwr := wrapS (Fq.epD m) (Fq.epD m') (by omega) (by omega) (by omega) (by omega)
  have hwr2 : IntKind.i64.wrap (Fq.epD m + Fq.epD m') = Fq.epD m + Fq.epD m' := by rw [IntWalk.i64_left]; exact hwr
  have hgr := fun (w2 : World) (us : List Nat) (h2 : Sb w2 b us k s) => grow_ b us k 1 s 0 w2 h2
  have kA : Kb b w w := Kb.refl _ _
  obtain ⟨X1, hX1⟩ : ∃ X1, X1 = Fq.wD n m := ⟨_, rfl⟩
  obtain ⟨X2, hX2⟩ : ∃ X2, X2 = Fq.wD n' m' := ⟨_, rfl⟩
  rw [← hX1] at hsp1 ⊢
  rw [← hX2] at hsp2 ⊢
  generalize Fq.sgD m * Fq.sgD m' / 18446744073709551616 = ph at *
  generalize Fq.sgD m * Fq.sgD m' % 18446744073709551616 = pl at *
  generalize Fq.sgD m = sg1 at *
  generalize Fq.sgD m' = sg2 at *
  generalize Fq.epD m = ep1 at *
  generalize Fq.epD m' = ep2 at *
  generalize (n && !(m == 0)) = ng1 at *
  generalize (n' && !(m' == 0)) = ng2 at *
  clear hval hE2 hE v1 v2 v3 v4 v5 u1 u2 u3 u4 u5 hlt hs1 hs2 hX1 hX2 hV
  go_enter Tryz.func15, Tryz.ntmps15
  go_wp2_with (first | (go_at_call_of 53 (Value.float FloatKind.f64 X1); refine (hsp1 _).mono ?_; rintro e w1 ⟨rfl, g1⟩; replace hS := hS.kp g1; replace kA := kA.trans (Kb.of (g := b) g1)) | (go_at_call_of 53 (Value.float FloatKind.f64 X2); refine (hsp2 _).mono ?_; rintro e w2 ⟨rfl, g2⟩; replace hS := hS.kp g2; replace kA := kA.trans (Kb.of (g := b) g2)) | (go_at_call 54; refine (hm64 _).mono ?_; rintro e w' ⟨rfl, hw'⟩; obtain rfl := hw'.symm; clear hw'; have hly := hly _ hS.2) | (go_at_call 55; refine hly.mono ?_; rintro e w3 ⟨us, ⟨v9, rfl⟩, hB, hR, k2⟩; have hgr := hgr w3 us ⟨hR.1, hB⟩) | (go_at_call 56; refine hgr.mono ?_; rintro e w4 ⟨⟨v8, rfl⟩, hZ, k3⟩))
  exact bodyPost_end (v := .tuple #[]) (by kernel_rfl) rfl (by first | exact ⟨⟨_, rfl⟩, us, hZ, hR, (kA.trans k2).trans k3⟩ | exact ⟨us, ⟨_, rfl⟩, hZ, hR, (kA.trans k2).trans k3⟩)
set_option maxRecDepth 20000 in
set_option maxHeartbeats 600000 in
theorem overF_ (d : Int) (hd1 : -9223372036854775808 ≤ d) (hd2 : d < 9223372036854775808) (N : Nat) (hN : 1 ≤ N) (hN2 : N < 9223372036854775808) (b : Nat) (ws : List Nat) (V : Int) (hV : Rep ws V) (hb : V.natAbs < wh) (k : Nat) (w : World) (hS : Sb w b ws k 0) (hQ : Fq.Tab w) : Calls Tryz.prog 13 #[.pointer (some ⟨b, 0, none⟩), .int .i64 d, .int .i64 (N : Int)] w fun e w' => e = .returned (.float .f64 (ratW d (decide (V < 0)) V.natAbs N (-2148))) ∧ Kp w w' := by
  have hnt : ∀ w : World, Calls Tryz.prog 46 #[.agg (wc ws)] w fun e w' => ∃ (v : Value) (xs : List Int), e = .returned (.tuple #[.bool (decide (V < 0)), v]) ∧ Own w' w.heap.size v xs ∧ Wd xs ∧ xs.length = 134 ∧ val xs = V.natAbs ∧ Kp w w' := fun w => by
    by_cases c : V < 0
    · rw [decide_eq_true c]; exact natN_ ws V hV hb c w
    · rw [decide_eq_false c]; exact natP_ ws V hV hb c w
  have hsm := nsmall_ N (by omega)
  have hrt : ∀ (w1 : World) (v : Value) (xs : List Int), Own w1 w.heap.size v xs → Wd xs → xs.length = 134 → val xs = V.natAbs → Kp w w1 → ∃ (p : Option Addr) (c : Nat), v = .slice p 134 c ∧ ∀ (w2 : World) (v2 : Value), Own w2 w1.heap.size v2 (dig N) → Kp w1 w2 → ∃ (p2 : Option Addr) (l2 c2 : Nat), v2 = .slice p2 l2 c2 ∧ Calls Tryz.prog 50 #[.int .i64 d, .bool (decide (V < 0)), .slice p 134 c, .slice p2 l2 c2, .int .i64 (-2148)] w2 fun e w' => e = .returned (.float .f64 (ratW d (decide (V < 0)) V.natAbs N (-2148))) ∧ Kp w2 w' := by
    intro w1 v xs ho hw hl hv g
    obtain ⟨p, c, rfl, hx, hc⟩ := ho.arr
    refine ⟨p, c, by rw [hl], fun w2 v2 ho2 g2 => ?_⟩
    obtain ⟨p2, c2, rfl, hy, hd⟩ := ho2.arr
    refine ⟨p2, _, c2, rfl, ?_⟩
    have hNl : (dig N).length ≤ 1048576 := by
      refine Nat.le_trans (m := 2) ?_ (by decide)
      show len32 N ≤ 2
      apply Classical.byContradiction
      intro h
      have := len32_lt N 2 (by omega)
      rw [show (4294967296 : Nat) ^ 2 = 18446744073709551616 from rfl] at this
      omega
    have := prat_ d (decide (V < 0)) p p2 c c2 xs (dig N) (-2148) w2 (Fq.Tab.grown hQ (g.trans g2)) hd1 hd2 (hx.grown g2) hy hw (Wd_dig N) (by omega) hNl hc hd
    rw [hl, hv, val_dig] at this
    exact this
  have c1 := hS.state
  have hld := loadS hS
  generalize ratW d (decide (V < 0)) V.natAbs N (-2148) = R at *
  generalize decide (V < 0) = ng at *
  have t1 : ¬ ((N : Int) < 1) := by omega
  have t2 : IntKind.u64.wrap (N : Int) = (N : Int) := by rw [IntKind.wrap_u64]; omega
  clear hV hb hQ hd1 hd2 hN hN2
  go_enter Tryz.func13, Tryz.ntmps13
  go_upto_region 5 with fail
  refine wp_region_list ?_
  refine wpl_val rfl _ rfl ?_
  refine wpl_val rfl _ rfl ?_
  refine wpl_field rfl _ _ _ rfl _ _ rfl (fa0 b _) ?_
  refine wpl_load rfl 52 _ rfl b 0 rfl _ hld ?_
  go_wp2_with (first | (go_at_call 46; refine (hnt _).mono ?_; rintro e w1 ⟨v, xs, rfl, ho, hwx, hxl, hvx, g1⟩; have hsm := hsm w1; have hrt := hrt w1 v xs ho hwx hxl hvx g1; obtain ⟨p, c, rfl, hrt⟩ := hrt; clear hxl hvx hwx ho) | (go_at_call 51; refine hsm.mono ?_; rintro e w2 ⟨v2, rfl, ho2, g2⟩; have hrt := hrt w2 v2 ho2 g2; obtain ⟨p2, l2, c2, rfl, hrt⟩ := hrt; clear ho2) | (go_at_call 50; refine hrt.mono ?_; rintro e w3 ⟨rfl, g3⟩))
  exact bodyPost_ret (v := .float .f64 R) (by simp [results, Tryz.results13, go_sem]) rfl ⟨rfl, (g1.trans g2).trans g3⟩
theorem fadd_ (n : Bool) (m : Nat) (hm : m < 9218868437227405312) (K : Nat) (hK : K = 1074) (b : Nat) (V : Int) (k : Nat) (hk : k < 4611686018427387904) (w : World) (h : Fs w b V k K) : Calls Tryz.prog 17 #[.pointer (some ⟨b, 0, none⟩), .float .f64 (Fq.wD n m)] w fun e w' => (∃ v, e = .returned v) ∧ Fs w' b (V + tV n m K) (k + 1) K ∧ Kb b w w' := by
  obtain ⟨ws, h1, h2, h3, h4⟩ := h
  refine (add_ n m K hK hm b ws V h1 k 0 w h2).mono ?_
  rintro e w' ⟨us, hv, hS, hR, g⟩
  rw [show (k + 1) % 18446744073709551616 = k + 1 from Nat.mod_eq_of_lt (by omega), grS0 (k + 1) (by omega)] at hS
  exact ⟨hv, ⟨us, hR, hS, by omega, Fs.grow k V _ K h4 (tV_le n m K hK hm)⟩, g⟩
theorem fmul_ (n n' : Bool) (m m' : Nat) (hm : m < 9218868437227405312) (hm' : m' < 9218868437227405312) (K : Nat) (hK : K = 1074) (b : Nat) (V : Int) (k : Nat) (hk : k < 4611686018427387904) (w : World) (h : Fs w b V k K) : Calls Tryz.prog 15 #[.pointer (some ⟨b, 0, none⟩), .float .f64 (Fq.wD n m), .float .f64 (Fq.wD n' m')] w fun e w' => (∃ v, e = .returned v) ∧ Fs w' b (V + Iv n m * Iv n' m') (k + 1) K ∧ Kb b w w' := by
  obtain ⟨ws, h1, h2, h3, h4⟩ := h
  refine (mul_ n n' m m' hm hm' b ws V h1 k 0 w h2).mono ?_
  rintro e w' ⟨us, hv, hS, hR, g⟩
  rw [show (k + 1) % 18446744073709551616 = k + 1 from Nat.mod_eq_of_lt (by omega), grS0 (k + 1) (by omega)] at hS
  exact ⟨hv, ⟨us, hR, hS, by omega, Fs.grow k V _ K h4 (pV_le n n' m m' K hK hm hm')⟩, g⟩

theorem fround_ (d : Int) (hd1 : -9223372036854775808 ≤ d) (hd2 : d < 9223372036854775808) (K : Nat) (hK : K = 1074) (b : Nat) (V : Int) (k : Nat) (w : World) (h : Fs w b V k K) (hT : Tab w) (hQ : Fq.Tab w) : Calls Tryz.prog 10 #[.pointer (some ⟨b, 0, none⟩), .int .i64 d] w fun e w' => e = .returned (.float .f64 (fmaW d V)) ∧ Kp w w' := by
  obtain ⟨ws, h1, h2, h3, h4⟩ := h
  exact roundF_ d hd1 hd2 b ws V h1 (Nat.lt_of_le_of_lt h4 (tb_wh K k hK h3)) k w h2 hT hQ
theorem fover_ (d : Int) (hd1 : -9223372036854775808 ≤ d) (hd2 : d < 9223372036854775808) (N : Nat) (hN : 1 ≤ N) (hN2 : N < 9223372036854775808) (K : Nat) (hK : K = 1074) (b : Nat) (V : Int) (k : Nat) (w : World) (h : Fs w b V k K) (hQ : Fq.Tab w) : Calls Tryz.prog 13 #[.pointer (some ⟨b, 0, none⟩), .int .i64 d, .int .i64 (N : Int)] w fun e w' => e = .returned (.float .f64 (ratW d (decide (V < 0)) V.natAbs N (-2148))) ∧ Kp w w' := by
  obtain ⟨ws, h1, h2, h3, h4⟩ := h
  exact overF_ d hd1 hd2 N hN hN2 b ws V h1 (Nat.lt_of_le_of_lt h4 (tb_wh K k hK h3)) k w h2 hQ
theorem fsign_ (K : Nat) (hK : K = 1074) (b : Nat) (V : Int) (k : Nat) (w : World) (h : Fs w b V k K) : Calls Tryz.prog 11 #[.pointer (some ⟨b, 0, none⟩)] w fun e w' => e = .returned (.int .i64 (sgV V)) ∧ Kp w w' := by
  obtain ⟨ws, h1, h2, h3, h4⟩ := h
  exact signF_ b ws V h1 (Nat.lt_of_le_of_lt h4 (tb_wh K k hK h3)) k w h2
theorem fstate_ (K : Nat) (b : Nat) (V : Int) (k : Nat) (w : World) (h : Fs w b V k K) : Calls Tryz.prog 12 #[.pointer (some ⟨b, 0, none⟩)] w fun e w' => e = .returned (.int .i64 0) ∧ w' = w := by
  obtain ⟨ws, h1, h2, h3, h4⟩ := h
  exact state_ b ws k 0 w h2
theorem fnew_ (K : Nat) (w : World) : Calls Tryz.prog 7 #[] w fun e w' => e = .returned (.pointer (some ⟨w.heap.size, 0, none⟩)) ∧ Fs w' w.heap.size 0 0 K ∧ Kp w w' := by
  refine (new_ w).mono ?_
  rintro e w' ⟨rfl, hS, g⟩
  exact ⟨rfl, ⟨_, Rep.zero, hS, by decide, by simp⟩, g⟩

set_option maxRecDepth 20000 in
set_option maxHeartbeats 400000 in
theorem fl4_ (x : Nat) (w : World) : Calls Tryz.prog 16 #[.int .u64 (x : Int)] w fun e w' => e = .returned (.float .f64 x) ∧ w' = w := by
  have h := Fq.ff64 x
  go_enter Tryz.func16, Tryz.ntmps16
  go_wp2
  exact bodyPost_ret (v := .float .f64 x) (by simp [results, Tryz.results16, go_sem]) rfl ⟨rfl, rfl⟩
set_option maxRecDepth 20000 in
set_option maxHeartbeats 400000 in
theorem bits4_ (X : Nat) (h : (FloatKind.f64.format.order X X != some .eq) = false) (w : World) : Calls Tryz.prog 9 #[.float .f64 X] w fun e w' => e = .returned (.int .u64 (X : Int)) ∧ w' = w := by
  have h2 := Fq.fb64 X
  go_enter Tryz.func9, Tryz.ntmps9
  go_wp2
  exact bodyPost_ret (v := .int .u64 (X : Int)) (by simp [results, Tryz.results9, go_sem]) rfl ⟨rfl, rfl⟩
theorem lv1 : fmaW 0 (0 + tV false 4607182418800017408 1074 + Iv false 1 * Iv false 4607182418800017408 + tV true 4607182418800017408 1074) = 1 := by decide +kernel
theorem lv2 : sgV (0 + tV false 4607182418800017408 1074 + Iv false 1 * Iv false 4607182418800017408 + tV true 4607182418800017408 1074) = 1 := by decide +kernel
theorem lv3 : ratW (-1) (decide ((0 + tV false 9218868437227405311 1074 + tV false 9218868437227405311 1074) < 0)) (0 + tV false 9218868437227405311 1074 + tV false 9218868437227405311 1074).natAbs 2 (-2148) = 9218868437227405311 := by decide +kernel
theorem lv4 : fmaW 1 (0 + tV false 9218868437227405311 1074 + tV false 9218868437227405311 1074) = 9218868437227405312 := by decide +kernel
theorem lo1 : (FloatKind.f64.format.order 1 1 != some .eq) = false := by decide +kernel
theorem lo2 : (FloatKind.f64.format.order 9218868437227405311 9218868437227405311 != some .eq) = false := by decide +kernel
theorem lo3 : (FloatKind.f64.format.order 9218868437227405312 9218868437227405312 != some .eq) = false := by decide +kernel
theorem Kb.ne {g : Nat} {a w w' : World} (h : Kb g w w') (k : Kp a w) (hg : a.heap.size ≤ g) : Kp a w' := Kb.kp h k hg
set_option maxRecDepth 20000 in
set_option maxHeartbeats 2000000 in
theorem lives_ (w : World) (hT : Tab w) (hQ : Fq.Tab w) : Calls Tryz.prog 8 #[] w fun e w' => e = .returned (.bool true) ∧ Kp w w' := by
  have hnw := fnew_ 1074
  have hfl1 := fl4_ 1
  have hfl2 := fl4_ 4607182418800017408
  have hfl3 := fl4_ 9218868437227405311
  have hb1 := bits4_ 1 lo1
  have hb2 := bits4_ 9218868437227405311 lo2
  have hb3 := bits4_ 9218868437227405312 lo3
  have ha1 := fun (b : Nat) (V : Int) (k : Nat) (hk : k < 4611686018427387904) => fadd_ false 4607182418800017408 (by decide) 1074 rfl b V k hk
  have ha2 := fun (b : Nat) (V : Int) (k : Nat) (hk : k < 4611686018427387904) => fadd_ true 4607182418800017408 (by decide) 1074 rfl b V k hk
  have ha3 := fun (b : Nat) (V : Int) (k : Nat) (hk : k < 4611686018427387904) => fadd_ false 9218868437227405311 (by decide) 1074 rfl b V k hk
  have hm1 := fun (b : Nat) (V : Int) (k : Nat) (hk : k < 4611686018427387904) => fmul_ false false 1 4607182418800017408 (by decide) (by decide) 1074 rfl b V k hk
  rw [show Fq.wD false 4607182418800017408 = 4607182418800017408 from rfl] at ha1 hm1
  rw [show Fq.wD true 4607182418800017408 = 13830554455654793216 from rfl] at ha2
  rw [show Fq.wD false 9218868437227405311 = 9218868437227405311 from rfl] at ha3
  rw [show Fq.wD false 1 = 1 from rfl] at hm1
  have hr1 := fun (b : Nat) (V : Int) (k : Nat) => fround_ 0 (by decide) (by decide) 1074 rfl b V k
  have hr2 := fun (b : Nat) (V : Int) (k : Nat) => fround_ 1 (by decide) (by decide) 1074 rfl b V k
  have ho1 := fun (b : Nat) (V : Int) (k : Nat) => fover_ (-1) (by decide) (by decide) 2 (by decide) (by decide) 1074 rfl b V k
  have hs1 := fun (b : Nat) (V : Int) (k : Nat) => fsign_ 1074 rfl b V k
  have hs2 := fun (b : Nat) (V : Int) (k : Nat) => fstate_ 1074 b V k
  go_enter Tryz.func8, Tryz.ntmps8
  go_wp2_with fail
  refine (hnw _).mono ?_; rintro e w1 ⟨rfl, s1, g1⟩
  go_wp2_with fail
  refine (hnw _).mono ?_; rintro e w2 ⟨rfl, t1, g2⟩
  have hne : w.heap.size ≠ w1.heap.size := by have := s1.lt; omega
  have hz1 : w.heap.size ≤ w1.heap.size := g1.size
  replace s1 := s1.kp g2
  have kw := g1.trans g2
  have hz0 : w.heap.size ≤ w.heap.size := Nat.le_refl _
  clear g1 g2 hnw
  generalize w1.heap.size = b2 at *
  generalize hb9 : w.heap.size = b1 at s1 hne ⊢
  rw [hb9] at hz0
  have hz0 : w.heap.size ≤ b1 := by rw [hb9]; exact hz0
  clear hb9
  go_wp2_with fail
  refine (ha1 b1 _ 0 (by decide) _ s1).mono ?_; rintro e w3 ⟨⟨v3, rfl⟩, s2, k3⟩
  replace t1 := t1.kb k3 (Ne.symm hne)
  replace kw := k3.kp kw hz0
  clear k3 s1
  go_wp2_with fail
  refine (hfl1 _).mono ?_; rintro e w' ⟨rfl, hw'⟩; obtain rfl := hw'.symm; clear hw'
  go_wp2_with fail
  refine (hfl2 _).mono ?_; rintro e w' ⟨rfl, hw'⟩; obtain rfl := hw'.symm; clear hw'
  go_wp2_with fail
  refine (hm1 b1 _ 1 (by decide) _ s2).mono ?_; rintro e w4 ⟨⟨v4, rfl⟩, s3, k4⟩
  replace t1 := t1.kb k4 (Ne.symm hne)
  replace kw := k4.kp kw hz0
  clear k4 s2
  go_wp2_with fail
  refine (ha2 b1 _ 2 (by decide) _ s3).mono ?_; rintro e w5 ⟨⟨v5, rfl⟩, s4, k5⟩
  replace t1 := t1.kb k5 (Ne.symm hne)
  replace kw := k5.kp kw hz0
  clear k5 s3
  go_wp2_with fail
  refine (hfl3 _).mono ?_; rintro e w' ⟨rfl, hw'⟩; obtain rfl := hw'.symm; clear hw'
  go_wp2_with fail
  refine (ha3 b2 _ 0 (by decide) _ t1).mono ?_; rintro e w6 ⟨⟨v6, rfl⟩, t2, k6⟩
  replace s4 := s4.kb k6 hne
  replace kw := k6.kp kw hz1
  clear k6 t1
  go_wp2_with fail
  refine (hfl3 _).mono ?_; rintro e w' ⟨rfl, hw'⟩; obtain rfl := hw'.symm; clear hw'
  go_wp2_with fail
  refine (ha3 b2 _ 1 (by decide) _ t2).mono ?_; rintro e w7 ⟨⟨v7, rfl⟩, t3, k7⟩
  replace s4 := s4.kb k7 hne
  replace kw := k7.kp kw hz1
  clear k7 t2
  have q1 := hr1 b1 _ _ _ s4 (hT.grown kw) (Fq.Tab.grown hQ kw)
  rw [lv1] at q1
  go_wp2_with fail
  refine q1.mono ?_; rintro e w8 ⟨rfl, g8⟩
  replace kw := kw.trans g8
  replace s4 := s4.kp g8
  replace t3 := t3.kp g8
  clear g8 q1
  go_wp2_with fail
  refine (hb1 _).mono ?_; rintro e w' ⟨rfl, hw'⟩; obtain rfl := hw'.symm; clear hw'
  have q2 := hs1 b1 _ _ _ s4
  rw [lv2] at q2
  go_wp2_with fail
  refine q2.mono ?_; rintro e w9 ⟨rfl, g9⟩
  replace kw := kw.trans g9
  replace s4 := s4.kp g9
  replace t3 := t3.kp g9
  clear g9 q2
  go_wp2_with fail
  refine (hs2 b1 _ _ _ s4).mono ?_; rintro e w' ⟨rfl, hw'⟩; obtain rfl := hw'.symm; clear hw'
  have q3 := ho1 b2 _ _ _ t3 (Fq.Tab.grown hQ kw)
  rw [lv3] at q3
  go_wp2_with fail
  refine q3.mono ?_; rintro e w10 ⟨rfl, g10⟩
  replace kw := kw.trans g10
  replace t3 := t3.kp g10
  clear g10 q3
  go_wp2_with fail
  refine (hb2 _).mono ?_; rintro e w' ⟨rfl, hw'⟩; obtain rfl := hw'.symm; clear hw'
  have q4 := hr2 b2 _ _ _ t3 (hT.grown kw) (Fq.Tab.grown hQ kw)
  rw [lv4] at q4
  go_wp2_with fail
  refine q4.mono ?_; rintro e w11 ⟨rfl, g11⟩
  replace kw := kw.trans g11
  clear g11 q4
  go_wp2_with fail
  refine (hb3 _).mono ?_; rintro e w' ⟨rfl, hw'⟩; obtain rfl := hw'.symm; clear hw'
  go_wp2
  exact bodyPost_ret (v := .bool true) (by simp [results, Tryz.results8, go_sem]) rfl ⟨rfl, kw⟩
end Go.Proofs.YteedfmghgkmofaaGreatDoor
