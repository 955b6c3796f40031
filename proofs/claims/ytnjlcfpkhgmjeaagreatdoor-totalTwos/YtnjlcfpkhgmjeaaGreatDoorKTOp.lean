import Derived.Test.YtnjlcfpkhgmjeaaGreatDoorKTOl
namespace Go.Proofs.YtnjlcfpkhgmjeaaGreatDoor
open Go.RowKit

theorem mul_val (n n' : Bool) (m m' : Nat) (hm : m < 9218868437227405312) (hm' : m' < 9218868437227405312) (E : Nat) (hE : Fq.epD m + Fq.epD m' + 2148 = (E : Int)) : sgI ((n && !(m == 0)) != (n' && !(m' == 0))) * (((Fq.sgD m * Fq.sgD m' / 18446744073709551616 * 18446744073709551616 + Fq.sgD m * Fq.sgD m' % 18446744073709551616) * 2 ^ E : Nat) : Int) = Iv n m * Iv n' m' := by
  obtain ⟨v1, v2, v3, v4, v5⟩ := Fq.vlsgD m hm
  obtain ⟨u1, u2, u3, u4, u5⟩ := Fq.vlsgD m' hm'
  have v1 : Fq.sgD m * 2 ^ (Fq.epD m + 1074).toNat = Fq.vV Ieee.double m := v1
  have u1 : Fq.sgD m' * 2 ^ (Fq.epD m' + 1074).toNat = Fq.vV Ieee.double m' := u1
  have e1 : E = (Fq.epD m + 1074).toNat + (Fq.epD m' + 1074).toNat := by omega
  rw [Nat.mul_comm (Fq.sgD m * Fq.sgD m' / 18446744073709551616), Nat.div_add_mod, e1, Nat.pow_add, show Fq.sgD m * Fq.sgD m' * (2 ^ (Fq.epD m + 1074).toNat * 2 ^ (Fq.epD m' + 1074).toNat) = (Fq.sgD m * 2 ^ (Fq.epD m + 1074).toNat) * (Fq.sgD m' * 2 ^ (Fq.epD m' + 1074).toNat) from Nat.mul_mul_mul_comm _ _ _ _, v1, u1]
  unfold Iv sgI
  by_cases z : m = 0
  · have z2 : Fq.vV Ieee.double m = 0 := by rw [← v1, v3.1 z, Nat.zero_mul]
    rw [z2]; simp
  · by_cases z' : m' = 0
    · have z2 : Fq.vV Ieee.double m' = 0 := by rw [← u1, u3.1 z', Nat.zero_mul]
      rw [z2]; simp
    · rw [show (n && !(m == 0)) = n from by simp [z], show (n' && !(m' == 0)) = n' from by simp [z'], Int.natCast_mul]
      cases n <;> cases n' <;> simp [Int.neg_mul, Int.mul_neg]
theorem wrapS (a c : Int) (h1 : -5000 ≤ a) (h2 : a ≤ 5000) (h3 : -5000 ≤ c) (h4 : c ≤ 5000) : wrap64 (a + c) = a + c := by unfold wrap64; omega
set_option maxRecDepth 20000 in
set_option maxHeartbeats 1000000 in
theorem mul_ (n n' : Bool) (m m' : Nat) (hm : m < 9218868437227405312) (hm' : m' < 9218868437227405312) (b : Nat) (ws : List Nat) (V : Int) (hV : Rep ws V) (k : Nat) (s : Int) (w : World) (hS : Sb w b ws k s) : Calls Tryz.prog 26 #[.pointer (some ⟨b, 0, none⟩), .float .f64 (Fq.wD n m), .float .f64 (Fq.wD n' m')] w fun e w' => ∃ ws' : List Nat, (∃ v, e = .returned v) ∧ Sb w' b ws' ((k + 1) % 18446744073709551616) (grS ((k + 1) % 18446744073709551616) (jn s 0)) ∧ Rep ws' (V + Iv n m * Iv n' m') ∧ Kb b w w' := by
  have hsp1 := Fq.split_d n m hm
  have hsp2 := Fq.split_d n' m' hm'
  obtain ⟨v1, v2, v3, v4, v5⟩ := Fq.vlsgD m hm
  obtain ⟨u1, u2, u3, u4, u5⟩ := Fq.vlsgD m' hm'
  obtain ⟨E, hE⟩ : ∃ E : Nat, Fq.epD m + Fq.epD m' + 2148 = (E : Int) := ⟨(Fq.epD m + Fq.epD m' + 2148).toNat, by omega⟩
  have hval := mul_val n n' m m' hm hm' E hE
  have hE2 : E = E / 64 * 64 + E % 64 := by omega
  have hs1 := sg64 _ v2
  have hs2 := sg64 _ u2
  have hm64 := mul64_ (Fq.sgD m) (Fq.sgD m') hs1 hs2
  have hlt : Fq.sgD m * Fq.sgD m' / 18446744073709551616 < 18446744073709551616 := Nat.div_lt_of_lt_mul (Nat.mul_lt_mul'' hs1 hs2)
  have hly := fun (w1 : World) (h1 : Bk w1 b (wc ws ++ #[.int .u64 (k : Int), .int .i64 s]) 55) => lay_ ((n && !(m == 0)) != (n' && !(m' == 0))) (Fq.sgD m * Fq.sgD m' / 18446744073709551616) (Fq.sgD m * Fq.sgD m' % 18446744073709551616) (E / 64) (E % 64) (Fq.epD m + Fq.epD m') hlt (Nat.mod_lt _ (by decide)) (by rw [hE, ← hE2]) (Nat.mod_lt _ (by decide)) (by omega) b ws _ _ V hV w1 h1
  rw [← hE2, hval] at hly
  have hwr := wrapS (Fq.epD m) (Fq.epD m') (by omega) (by omega) (by omega) (by omega)
  have hwr2 : IntKind.i64.wrap (Fq.epD m + Fq.epD m') = Fq.epD m + Fq.epD m' := by rw [IntWalk.i64_left]; exact hwr
  have hgr := fun (w2 : World) (us : List Nat) (h2 : Sb w2 b us k s) => grow_ b us k 1 s 0 w2 h2
  have kA : Kb b w w := Kb.refl _ _
  obtain ⟨X1, hX1⟩ : ∃ X1, X1 = Fq.wD n m := ⟨_, rfl⟩
  obtain ⟨X2, hX2⟩ : ∃ X2, X2 = Fq.wD n' m' := ⟨_, rfl⟩
  rw [← hX1] at hsp1 ⊢
  rw [← hX2] at hsp2 ⊢
  generalize Fq.sgD m * Fq.sgD m' / 18446744073709551616 = ph at *
  generalize Fq.sgD m * Fq.sgD m' % 18446744073709551616 = pl at *
  generalize Fq.sgD m = sg1 at *
  generalize Fq.sgD m' = sg2 at *
  generalize Fq.epD m = ep1 at *
  generalize Fq.epD m' = ep2 at *
  generalize (n && !(m == 0)) = ng1 at *
  generalize (n' && !(m' == 0)) = ng2 at *
  clear hval hE2 hE v1 v2 v3 v4 v5 u1 u2 u3 u4 u5 hlt hs1 hs2 hX1 hX2 hV
  go_enter Tryz.func26, Tryz.ntmps26
  go_wp2_with (first | (go_at_call_of 41 (Value.float FloatKind.f64 X1); refine (hsp1 _).mono ?_; rintro e w1 ⟨rfl, g1⟩; replace hS := hS.kp g1; replace kA := kA.trans (Kb.of (g := b) g1)) | (go_at_call_of 41 (Value.float FloatKind.f64 X2); refine (hsp2 _).mono ?_; rintro e w2 ⟨rfl, g2⟩; replace hS := hS.kp g2; replace kA := kA.trans (Kb.of (g := b) g2)) | (go_at_call 58; refine (hm64 _).mono ?_; rintro e w' ⟨rfl, hw'⟩; obtain rfl := hw'.symm; clear hw'; have hly := hly _ hS.2) | (go_at_call 42; refine hly.mono ?_; rintro e w3 ⟨us, ⟨v9, rfl⟩, hB, hR, k2⟩; have hgr := hgr w3 us ⟨hR.1, hB⟩) | (go_at_call 43; refine hgr.mono ?_; rintro e w4 ⟨⟨v8, rfl⟩, hZ, k3⟩))
  exact bodyPost_end (v := .tuple #[]) (by kernel_rfl) rfl (by first | exact ⟨⟨_, rfl⟩, us, hZ, hR, (kA.trans k2).trans k3⟩ | exact ⟨us, ⟨_, rfl⟩, hZ, hR, (kA.trans k2).trans k3⟩)
set_option maxRecDepth 20000 in
set_option maxHeartbeats 600000 in
theorem overF_ (d : Int) (hd1 : -9223372036854775808 ≤ d) (hd2 : d < 9223372036854775808) (N : Nat) (hN : 1 ≤ N) (hN2 : N < 9223372036854775808) (b : Nat) (ws : List Nat) (V : Int) (hV : Rep ws V) (hb : V.natAbs < wh) (k : Nat) (w : World) (hS : Sb w b ws k 0) (hQ : Fq.Tab w) : Calls Tryz.prog 40 #[.pointer (some ⟨b, 0, none⟩), .int .i64 d, .int .i64 (N : Int)] w fun e w' => e = .returned (.float .f64 (ratW d (decide (V < 0)) V.natAbs N (-2148))) ∧ Kp w w' := by
  have hnt : ∀ w : World, Calls Tryz.prog 47 #[.agg (wc ws)] w fun e w' => ∃ (v : Value) (xs : List Int), e = .returned (.tuple #[.bool (decide (V < 0)), v]) ∧ Own w' w.heap.size v xs ∧ Wd xs ∧ xs.length = 134 ∧ val xs = V.natAbs ∧ Kp w w' := fun w => by
    by_cases c : V < 0
    · rw [decide_eq_true c]; exact natN_ ws V hV hb c w
    · rw [decide_eq_false c]; exact natP_ ws V hV hb c w
  have hsm := nsmall_ N (by omega)
  have hrt : ∀ (w1 : World) (v : Value) (xs : List Int), Own w1 w.heap.size v xs → Wd xs → xs.length = 134 → val xs = V.natAbs → Kp w w1 → ∃ (p : Option Addr) (c : Nat), v = .slice p 134 c ∧ ∀ (w2 : World) (v2 : Value), Own w2 w1.heap.size v2 (dig N) → Kp w1 w2 → ∃ (p2 : Option Addr) (l2 c2 : Nat), v2 = .slice p2 l2 c2 ∧ Calls Tryz.prog 71 #[.int .i64 d, .bool (decide (V < 0)), .slice p 134 c, .slice p2 l2 c2, .int .i64 (-2148)] w2 fun e w' => e = .returned (.float .f64 (ratW d (decide (V < 0)) V.natAbs N (-2148))) ∧ Kp w2 w' := by
    intro w1 v xs ho hw hl hv g
    obtain ⟨p, c, rfl, hx, hc⟩ := ho.arr
    refine ⟨p, c, by rw [hl], fun w2 v2 ho2 g2 => ?_⟩
    obtain ⟨p2, c2, rfl, hy, hd⟩ := ho2.arr
    refine ⟨p2, _, c2, rfl, ?_⟩
    have hNl : (dig N).length ≤ 1048576 := by
      refine Nat.le_trans (m := 2) ?_ (by decide)
      show len32 N ≤ 2
      apply Classical.byContradiction
      intro h
      have := len32_lt N 2 (by omega)
      rw [show (4294967296 : Nat) ^ 2 = 18446744073709551616 from rfl] at this
      omega
    have := prat_ d (decide (V < 0)) p p2 c c2 xs (dig N) (-2148) w2 (Fq.Tab.grown hQ (g.trans g2)) hd1 hd2 (hx.grown g2) hy hw (Wd_dig N) (by omega) hNl hc hd
    rw [hl, hv, val_dig] at this
    exact this
  have c1 := hS.state
  have hld := loadS hS
  generalize ratW d (decide (V < 0)) V.natAbs N (-2148) = R at *
  generalize decide (V < 0) = ng at *
  have t1 : ¬ ((N : Int) < 1) := by omega
  have t2 : IntKind.u64.wrap (N : Int) = (N : Int) := by rw [IntKind.wrap_u64]; omega
  clear hV hb hQ hd1 hd2 hN hN2
  go_enter Tryz.func40, Tryz.ntmps40
  go_upto_region 5 with fail
  refine wp_region_list ?_
  refine wpl_val rfl _ rfl ?_
  refine wpl_val rfl _ rfl ?_
  refine wpl_field rfl _ _ _ rfl _ _ rfl (fa0 b _) ?_
  refine wpl_load rfl 53 _ rfl b 0 rfl _ hld ?_
  go_wp2_with (first | (go_at_call 47; refine (hnt _).mono ?_; rintro e w1 ⟨v, xs, rfl, ho, hwx, hxl, hvx, g1⟩; have hsm := hsm w1; have hrt := hrt w1 v xs ho hwx hxl hvx g1; obtain ⟨p, c, rfl, hrt⟩ := hrt; clear hxl hvx hwx ho) | (go_at_call 63; refine hsm.mono ?_; rintro e w2 ⟨v2, rfl, ho2, g2⟩; have hrt := hrt w2 v2 ho2 g2; obtain ⟨p2, l2, c2, rfl, hrt⟩ := hrt; clear ho2) | (go_at_call 71; refine hrt.mono ?_; rintro e w3 ⟨rfl, g3⟩))
  exact bodyPost_ret (v := .float .f64 R) (by simp [results, Tryz.results40, go_sem]) rfl ⟨rfl, (g1.trans g2).trans g3⟩
theorem fadd_ (n : Bool) (m : Nat) (hm : m < 9218868437227405312) (K : Nat) (hK : K = 1074) (b : Nat) (V : Int) (k : Nat) (hk : k < 4611686018427387904) (w : World) (h : Fs w b V k K) : Calls Tryz.prog 15 #[.pointer (some ⟨b, 0, none⟩), .float .f64 (Fq.wD n m)] w fun e w' => (∃ v, e = .returned v) ∧ Fs w' b (V + tV n m K) (k + 1) K ∧ Kb b w w' := by
  obtain ⟨ws, h1, h2, h3, h4⟩ := h
  refine (add_ n m K hK hm b ws V h1 k 0 w h2).mono ?_
  rintro e w' ⟨us, hv, hS, hR, g⟩
  rw [show (k + 1) % 18446744073709551616 = k + 1 from Nat.mod_eq_of_lt (by omega), grS0 (k + 1) (by omega)] at hS
  exact ⟨hv, ⟨us, hR, hS, by omega, Fs.grow k V _ K h4 (tV_le n m K hK hm)⟩, g⟩
theorem fmul_ (n n' : Bool) (m m' : Nat) (hm : m < 9218868437227405312) (hm' : m' < 9218868437227405312) (K : Nat) (hK : K = 1074) (b : Nat) (V : Int) (k : Nat) (hk : k < 4611686018427387904) (w : World) (h : Fs w b V k K) : Calls Tryz.prog 26 #[.pointer (some ⟨b, 0, none⟩), .float .f64 (Fq.wD n m), .float .f64 (Fq.wD n' m')] w fun e w' => (∃ v, e = .returned v) ∧ Fs w' b (V + Iv n m * Iv n' m') (k + 1) K ∧ Kb b w w' := by
  obtain ⟨ws, h1, h2, h3, h4⟩ := h
  refine (mul_ n n' m m' hm hm' b ws V h1 k 0 w h2).mono ?_
  rintro e w' ⟨us, hv, hS, hR, g⟩
  rw [show (k + 1) % 18446744073709551616 = k + 1 from Nat.mod_eq_of_lt (by omega), grS0 (k + 1) (by omega)] at hS
  exact ⟨hv, ⟨us, hR, hS, by omega, Fs.grow k V _ K h4 (pV_le n n' m m' K hK hm hm')⟩, g⟩

theorem fround_ (d : Int) (hd1 : -9223372036854775808 ≤ d) (hd2 : d < 9223372036854775808) (K : Nat) (hK : K = 1074) (b : Nat) (V : Int) (k : Nat) (w : World) (h : Fs w b V k K) (hT : Tab w) (hQ : Fq.Tab w) : Calls Tryz.prog 18 #[.pointer (some ⟨b, 0, none⟩), .int .i64 d] w fun e w' => e = .returned (.float .f64 (fmaW d V)) ∧ Kp w w' := by
  obtain ⟨ws, h1, h2, h3, h4⟩ := h
  exact roundF_ d hd1 hd2 b ws V h1 (Nat.lt_of_le_of_lt h4 (tb_wh K k hK h3)) k w h2 hT hQ
theorem fover_ (d : Int) (hd1 : -9223372036854775808 ≤ d) (hd2 : d < 9223372036854775808) (N : Nat) (hN : 1 ≤ N) (hN2 : N < 9223372036854775808) (K : Nat) (hK : K = 1074) (b : Nat) (V : Int) (k : Nat) (w : World) (h : Fs w b V k K) (hQ : Fq.Tab w) : Calls Tryz.prog 40 #[.pointer (some ⟨b, 0, none⟩), .int .i64 d, .int .i64 (N : Int)] w fun e w' => e = .returned (.float .f64 (ratW d (decide (V < 0)) V.natAbs N (-2148))) ∧ Kp w w' := by
  obtain ⟨ws, h1, h2, h3, h4⟩ := h
  exact overF_ d hd1 hd2 N hN hN2 b ws V h1 (Nat.lt_of_le_of_lt h4 (tb_wh K k hK h3)) k w h2 hQ
theorem fsign_ (K : Nat) (hK : K = 1074) (b : Nat) (V : Int) (k : Nat) (w : World) (h : Fs w b V k K) : Calls Tryz.prog 19 #[.pointer (some ⟨b, 0, none⟩)] w fun e w' => e = .returned (.int .i64 (sgV V)) ∧ Kp w w' := by
  obtain ⟨ws, h1, h2, h3, h4⟩ := h
  exact signF_ b ws V h1 (Nat.lt_of_le_of_lt h4 (tb_wh K k hK h3)) k w h2
theorem fstate_ (K : Nat) (b : Nat) (V : Int) (k : Nat) (w : World) (h : Fs w b V k K) : Calls Tryz.prog 17 #[.pointer (some ⟨b, 0, none⟩)] w fun e w' => e = .returned (.int .i64 0) ∧ w' = w := by
  obtain ⟨ws, h1, h2, h3, h4⟩ := h
  exact state_ b ws k 0 w h2
theorem fnew_ (K : Nat) (w : World) : Calls Tryz.prog 14 #[] w fun e w' => e = .returned (.pointer (some ⟨w.heap.size, 0, none⟩)) ∧ Fs w' w.heap.size 0 0 K ∧ Kp w w' := by
  refine (new_ w).mono ?_
  rintro e w' ⟨rfl, hS, g⟩
  exact ⟨rfl, ⟨_, Rep.zero, hS, by decide, by simp⟩, g⟩
end Go.Proofs.YtnjlcfpkhgmjeaaGreatDoor
