import Derived.Test.YtnjlcfpkhgmjeaaGreatDoorKTOl
import Derived.Lib.Mul64
namespace Go.Proofs.YtnjlcfpkhgmjeaaGreatDoor
open Go.RowKit
set_option maxRecDepth 20000 in
set_option maxHeartbeats 400000 in
theorem roundX_ (d : Int) (b : Nat) (ws : List Nat) (k : Nat) (s : Int) (hs : s ≠ 0) (w : World) (hS : Sb w b ws k s) : Calls Tryz.prog 18 #[.pointer (some ⟨b, 0, none⟩), .int .i64 d] w fun e w' => e = .returned (.float .f64 (limW s)) ∧ Kp w w' := by
  have c1 := hS.state
  have t : (s != 0) = true := by simpa using hs
  have hl := limit_ s
  generalize limW s = R at *
  clear hs hS
  go_enter Tryz.func18, Tryz.ntmps18
  go_wp2_with (first | (go_at_call 46; refine (hl _).mono ?_; rintro e w' ⟨rfl, hw'⟩; obtain rfl := hw'.symm; clear hw'))
  exact bodyPost_ret (v := .float .f64 R) (by simp [results, Tryz.results18, go_sem]) rfl ⟨rfl, Kp.refl _⟩
set_option maxRecDepth 20000 in
set_option maxHeartbeats 400000 in
theorem state_ (b : Nat) (ws : List Nat) (k : Nat) (s : Int) (w : World) (hS : Sb w b ws k s) : Calls Tryz.prog 17 #[.pointer (some ⟨b, 0, none⟩)] w fun e w' => e = .returned (.int .i64 s) ∧ w' = w := by
  have c1 := hS.state
  clear hS
  go_enter Tryz.func17, Tryz.ntmps17
  go_wp2
  exact bodyPost_ret (v := .int .i64 s) (by simp [results, Tryz.results17, go_sem]) rfl ⟨rfl, rfl⟩
def sgV (V : Int) : Int := if V < 0 then -1 else if V = 0 then 0 else 1
set_option maxRecDepth 20000 in
set_option maxHeartbeats 400000 in
theorem signF_ (b : Nat) (ws : List Nat) (V : Int) (hV : Rep ws V) (hb : V.natAbs < wh) (k : Nat) (w : World) (hS : Sb w b ws k 0) : Calls Tryz.prog 19 #[.pointer (some ⟨b, 0, none⟩)] w fun e w' => e = .returned (.int .i64 (sgV V)) ∧ Kp w w' := by
  have c1 := hS.state
  have hld := loadS hS
  have hsg : ∀ w : World, Calls Tryz.prog 48 #[.agg (wc ws)] w fun e w' => e = .returned (.int .i64 (sgV V)) ∧ Kp w w' := sign_ ws V hV hb
  generalize sgV V = R at *
  clear hV hb hS
  go_enter Tryz.func19, Tryz.ntmps19
  go_upto_region 3 with fail
  refine wp_region_list ?_
  refine wpl_val rfl _ rfl ?_
  refine wpl_val rfl _ rfl ?_
  refine wpl_field rfl _ _ _ rfl _ _ rfl (fa0 b _) ?_
  refine wpl_load rfl 53 _ rfl b 0 rfl _ hld ?_
  go_wp2_with (first | (go_at_call 48; refine (hsg _).mono ?_; rintro e w1 ⟨rfl, g1⟩))
  exact bodyPost_ret (v := .int .i64 R) (by simp [results, Tryz.results19, go_sem]) rfl ⟨rfl, g1⟩
set_option maxRecDepth 20000 in
set_option maxHeartbeats 400000 in
theorem signX_ (b : Nat) (ws : List Nat) (k : Nat) (s : Int) (hs : s = 1 ∨ s = -1 ∨ s = 2) (w : World) (hS : Sb w b ws k s) : Calls Tryz.prog 19 #[.pointer (some ⟨b, 0, none⟩)] w fun e w' => e = .returned (.int .i64 (if s = 2 then 0 else s)) ∧ Kp w w' := by
  have c1 := hS.state
  clear hS
  rcases hs with rfl | rfl | rfl
  · go_enter Tryz.func19, Tryz.ntmps19
    go_wp2
    exact bodyPost_ret (v := .int .i64 1) (by simp [results, Tryz.results19, go_sem]) rfl ⟨rfl, Kp.refl _⟩
  · go_enter Tryz.func19, Tryz.ntmps19
    go_wp2
    exact bodyPost_ret (v := .int .i64 (-1)) (by simp [results, Tryz.results19, go_sem]) rfl ⟨rfl, Kp.refl _⟩
  · go_enter Tryz.func19, Tryz.ntmps19
    go_wp2
    exact bodyPost_ret (v := .int .i64 0) (by simp [results, Tryz.results19, go_sem]) rfl ⟨rfl, Kp.refl _⟩
theorem zeroS : ∀ w : World, (zeroValue 55).run Tryz.prog w = .ok (.agg (wc (List.replicate 67 0) ++ #[.int .u64 0, .int .i64 0])) w := (zero_of_info (P := Tryz.prog) (t := 55) (v := .agg (wc (List.replicate 67 0) ++ #[.int .u64 0, .int .i64 0])) (n := 69) (by kernel_rfl)).1
theorem Sb.zero (w : World) : Sb (w.alloc (.cells (wc (List.replicate 67 0) ++ #[.int .u64 0, .int .i64 0]) 55)) w.heap.size (List.replicate 67 0) 0 0 := ⟨List.length_replicate, Bk.new _ _ _⟩
set_option maxRecDepth 20000 in
set_option maxHeartbeats 400000 in
theorem new_ (w : World) : Calls Tryz.prog 14 #[] w fun e w' => e = .returned (.pointer (some ⟨w.heap.size, 0, none⟩)) ∧ Sb w' w.heap.size (List.replicate 67 0) 0 0 ∧ Kp w w' := by
  have hz := zeroS
  have h1 := Sb.zero w
  have hs : (wc (List.replicate 67 0) ++ #[Value.int .u64 0, Value.int .i64 0]).size = 69 := by rw [Array.size_append, wc_size, List.length_replicate]; rfl
  generalize wc (List.replicate 67 0) ++ #[Value.int .u64 0, Value.int .i64 0] = Z at *
  have k1 : Kp w (w.alloc (.cells Z 55)) := (Kp.refl w).alloc _
  go_enter Tryz.func14, Tryz.ntmps14
  go_wp2
  exact bodyPost_ret (v := .pointer (some ⟨w.heap.size, 0, none⟩)) (by simp [results, Tryz.results14, go_sem]) rfl ⟨rfl, h1, k1⟩

theorem maskN (a : Nat) (ha : a < 18446744073709551616) : bits .and .u64 (a : Int) 4294967295 = ((a % 4294967296 : Nat) : Int) := by
  have h := bits_and_u64_nat a 4294967295 ha (by omega)
  have e : a &&& 4294967295 = a % 4294967296 := Nat.and_two_pow_sub_one_eq_mod a 32
  rw [e] at h
  exact h
theorem divN (a : Nat) : (a : Int) / 4294967296 = ((a / 4294967296 : Nat) : Int) := by omega
theorem mulNN (a b : Nat) : (a : Int) * (b : Int) = ((a * b : Nat) : Int) := (Int.natCast_mul a b).symm
theorem addNN (a b : Nat) : (a : Int) + (b : Int) = ((a + b : Nat) : Int) := (Int.natCast_add a b).symm
theorem wrapN (a : Nat) (ha : a < 18446744073709551616) : IntKind.u64.wrap (a : Int) = (a : Int) := by rw [IntKind.wrap_u64]; omega
theorem wrapM (a : Nat) : IntKind.u64.wrap (a : Int) = ((a % 18446744073709551616 : Nat) : Int) := by rw [IntKind.wrap_u64]; omega
set_option maxRecDepth 20000 in
set_option maxHeartbeats 1000000 in
theorem mul64_ (x y : Nat) (hx : x < 18446744073709551616) (hy : y < 18446744073709551616) (w : World) :
    Calls Tryz.prog 58 #[.int .u64 x, .int .u64 y] w fun e w' => e = .returned (.tuple #[.int .u64 ((x * y / 18446744073709551616 : Nat) : Int), .int .u64 ((x * y % 18446744073709551616 : Nat) : Int)]) ∧ w' = w := by
  obtain ⟨bd, bt, bw, hhi⟩ := Lib.mul64_hi x y hx hy
  have ba := Lib.half_mul_le (a := x / 4294967296) (b := y / 4294967296) (by omega) (by omega)
  have bb := Lib.half_mul_le (a := x / 4294967296) (b := y % 4294967296) (by omega) (by omega)
  have bc := Lib.half_mul_le (a := x % 4294967296) (b := y / 4294967296) (by omega) (by omega)
  have ba' : x / 4294967296 * (y / 4294967296) < 18446744073709551616 := by omega
  have bb' : x / 4294967296 * (y % 4294967296) < 18446744073709551616 := by omega
  have bc' : x % 4294967296 * (y / 4294967296) < 18446744073709551616 := by omega
  have bh1 : x / 4294967296 * (y / 4294967296) + (x / 4294967296 * (y % 4294967296) + x % 4294967296 * (y % 4294967296) / 4294967296) / 4294967296 < 18446744073709551616 := by omega
  have bh : x / 4294967296 * (y / 4294967296) + (x / 4294967296 * (y % 4294967296) + x % 4294967296 * (y % 4294967296) / 4294967296) / 4294967296 + ((x / 4294967296 * (y % 4294967296) + x % 4294967296 * (y % 4294967296) / 4294967296) % 4294967296 + x % 4294967296 * (y / 4294967296)) / 4294967296 < 18446744073709551616 := by omega
  go_enter Tryz.func58, Tryz.ntmps58
  go_wp2
  simp only [maskN x hx, maskN y hy, divN, mulNN, addNN, wrapN _ bd, wrapN _ bb', wrapN _ bt, maskN _ bt, wrapN _ bc', wrapN _ bw, wrapN _ ba', wrapN _ bh1, wrapN _ bh, wrapM (x * y)]
  rw [hhi]
  exact bodyPost_ret (v := .tuple #[.int .u64 ((x * y / 18446744073709551616 : Nat) : Int), .int .u64 ((x * y % 18446744073709551616 : Nat) : Int)]) (by simp [results, Tryz.results58, go_sem]) rfl ⟨rfl, rfl⟩

theorem mul_val (n n' : Bool) (m m' : Nat) (hm : m < 9218868437227405312) (hm' : m' < 9218868437227405312) (E : Nat) (hE : Fq.epD m + Fq.epD m' + 2148 = (E : Int)) : sgI ((n && !(m == 0)) != (n' && !(m' == 0))) * (((Fq.sgD m * Fq.sgD m' / 18446744073709551616 * 18446744073709551616 + Fq.sgD m * Fq.sgD m' % 18446744073709551616) * 2 ^ E : Nat) : Int) = Iv n m * Iv n' m' := by
  obtain ⟨v1, v2, v3, v4, v5⟩ := Fq.vlsgD m hm
  obtain ⟨u1, u2, u3, u4, u5⟩ := Fq.vlsgD m' hm'
  have v1 : Fq.sgD m * 2 ^ (Fq.epD m + 1074).toNat = Fq.vV Ieee.double m := v1
  have u1 : Fq.sgD m' * 2 ^ (Fq.epD m' + 1074).toNat = Fq.vV Ieee.double m' := u1
  have e1 : E = (Fq.epD m + 1074).toNat + (Fq.epD m' + 1074).toNat := by omega
  rw [Nat.mul_comm (Fq.sgD m * Fq.sgD m' / 18446744073709551616), Nat.div_add_mod, e1, Nat.pow_add, show Fq.sgD m * Fq.sgD m' * (2 ^ (Fq.epD m + 1074).toNat * 2 ^ (Fq.epD m' + 1074).toNat) = (Fq.sgD m * 2 ^ (Fq.epD m + 1074).toNat) * (Fq.sgD m' * 2 ^ (Fq.epD m' + 1074).toNat) from Nat.mul_mul_mul_comm _ _ _ _, v1, u1]
  unfold Iv sgI
  by_cases z : m = 0
  · have z2 : Fq.vV Ieee.double m = 0 := by rw [← v1, v3.1 z, Nat.zero_mul]
    rw [z2]; simp
  · by_cases z' : m' = 0
    · have z2 : Fq.vV Ieee.double m' = 0 := by rw [← u1, u3.1 z', Nat.zero_mul]
      rw [z2]; simp
    · rw [show (n && !(m == 0)) = n from by simp [z], show (n' && !(m' == 0)) = n' from by simp [z'], Int.natCast_mul]
      cases n <;> cases n' <;> simp [Int.neg_mul, Int.mul_neg]
theorem wrapS (a c : Int) (h1 : -5000 ≤ a) (h2 : a ≤ 5000) (h3 : -5000 ≤ c) (h4 : c ≤ 5000) : wrap64 (a + c) = a + c := by unfold wrap64; omega
set_option maxRecDepth 20000 in
set_option maxHeartbeats 1000000 in
theorem mul_ (n n' : Bool) (m m' : Nat) (hm : m < 9218868437227405312) (hm' : m' < 9218868437227405312) (b : Nat) (ws : List Nat) (V : Int) (hV : Rep ws V) (k : Nat) (s : Int) (w : World) (hS : Sb w b ws k s) : Calls Tryz.prog 26 #[.pointer (some ⟨b, 0, none⟩), .float .f64 (Fq.wD n m), .float .f64 (Fq.wD n' m')] w fun e w' => ∃ ws' : List Nat, (∃ v, e = .returned v) ∧ Sb w' b ws' ((k + 1) % 18446744073709551616) (grS ((k + 1) % 18446744073709551616) (jn s 0)) ∧ Rep ws' (V + Iv n m * Iv n' m') ∧ Kb b w w' := by
  have hsp1 := Fq.split_d n m hm
  have hsp2 := Fq.split_d n' m' hm'
  obtain ⟨v1, v2, v3, v4, v5⟩ := Fq.vlsgD m hm
  obtain ⟨u1, u2, u3, u4, u5⟩ := Fq.vlsgD m' hm'
  obtain ⟨E, hE⟩ : ∃ E : Nat, Fq.epD m + Fq.epD m' + 2148 = (E : Int) := ⟨(Fq.epD m + Fq.epD m' + 2148).toNat, by omega⟩
  have hval := mul_val n n' m m' hm hm' E hE
  have hE2 : E = E / 64 * 64 + E % 64 := by omega
  have hs1 := sg64 _ v2
  have hs2 := sg64 _ u2
  have hm64 := mul64_ (Fq.sgD m) (Fq.sgD m') hs1 hs2
  have hlt : Fq.sgD m * Fq.sgD m' / 18446744073709551616 < 18446744073709551616 := Nat.div_lt_of_lt_mul (Nat.mul_lt_mul'' hs1 hs2)
  have hly := fun (w1 : World) (h1 : Bk w1 b (wc ws ++ #[.int .u64 (k : Int), .int .i64 s]) 55) => lay_ ((n && !(m == 0)) != (n' && !(m' == 0))) (Fq.sgD m * Fq.sgD m' / 18446744073709551616) (Fq.sgD m * Fq.sgD m' % 18446744073709551616) (E / 64) (E % 64) (Fq.epD m + Fq.epD m') hlt (Nat.mod_lt _ (by decide)) (by rw [hE, ← hE2]) (Nat.mod_lt _ (by decide)) (by omega) b ws _ _ V hV w1 h1
  rw [← hE2, hval] at hly
  have hwr := wrapS (Fq.epD m) (Fq.epD m') (by omega) (by omega) (by omega) (by omega)
  have hwr2 : IntKind.i64.wrap (Fq.epD m + Fq.epD m') = Fq.epD m + Fq.epD m' := by rw [IntWalk.i64_left]; exact hwr
  have hgr := fun (w2 : World) (us : List Nat) (h2 : Sb w2 b us k s) => grow_ b us k 1 s 0 w2 h2
  have kA : Kb b w w := Kb.refl _ _
  obtain ⟨X1, hX1⟩ : ∃ X1, X1 = Fq.wD n m := ⟨_, rfl⟩
  obtain ⟨X2, hX2⟩ : ∃ X2, X2 = Fq.wD n' m' := ⟨_, rfl⟩
  rw [← hX1] at hsp1 ⊢
  rw [← hX2] at hsp2 ⊢
  generalize Fq.sgD m * Fq.sgD m' / 18446744073709551616 = ph at *
  generalize Fq.sgD m * Fq.sgD m' % 18446744073709551616 = pl at *
  generalize Fq.sgD m = sg1 at *
  generalize Fq.sgD m' = sg2 at *
  generalize Fq.epD m = ep1 at *
  generalize Fq.epD m' = ep2 at *
  generalize (n && !(m == 0)) = ng1 at *
  generalize (n' && !(m' == 0)) = ng2 at *
  clear hval hE2 hE v1 v2 v3 v4 v5 u1 u2 u3 u4 u5 hlt hs1 hs2 hX1 hX2 hV
  go_enter Tryz.func26, Tryz.ntmps26
  go_wp2_with (first | (go_at_call_of 41 (Value.float FloatKind.f64 X1); refine (hsp1 _).mono ?_; rintro e w1 ⟨rfl, g1⟩; replace hS := hS.kp g1; replace kA := kA.trans (Kb.of (g := b) g1)) | (go_at_call_of 41 (Value.float FloatKind.f64 X2); refine (hsp2 _).mono ?_; rintro e w2 ⟨rfl, g2⟩; replace hS := hS.kp g2; replace kA := kA.trans (Kb.of (g := b) g2)) | (go_at_call 58; refine (hm64 _).mono ?_; rintro e w' ⟨rfl, hw'⟩; obtain rfl := hw'.symm; clear hw'; have hly := hly _ hS.2) | (go_at_call 42; refine hly.mono ?_; rintro e w3 ⟨us, ⟨v9, rfl⟩, hB, hR, k2⟩; have hgr := hgr w3 us ⟨hR.1, hB⟩) | (go_at_call 43; refine hgr.mono ?_; rintro e w4 ⟨⟨v8, rfl⟩, hZ, k3⟩))
  exact bodyPost_end (v := .tuple #[]) (by kernel_rfl) rfl (by first | exact ⟨⟨_, rfl⟩, us, hZ, hR, (kA.trans k2).trans k3⟩ | exact ⟨us, ⟨_, rfl⟩, hZ, hR, (kA.trans k2).trans k3⟩)
end Go.Proofs.YtnjlcfpkhgmjeaaGreatDoor
