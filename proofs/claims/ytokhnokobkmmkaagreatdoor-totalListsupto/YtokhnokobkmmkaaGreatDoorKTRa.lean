import Derived.Test.YtokhnokobkmmkaaGreatDoorKH4Q
import Derived.Test.YtokhnokobkmmkaaGreatDoorKTOk
import Derived.Lib.Mul64
namespace Go.Proofs.YtokhnokobkmmkaaGreatDoor
open Go.RowKit
set_option maxRecDepth 20000 in
set_option maxHeartbeats 600000 in
theorem more_ (s1 : Bool) (p1 : Option Addr) (l1 c1 : Nat) (q1 : Option Addr) (k1 d1 : Nat) (P M N : Bool) (T n : Nat) (hT : T + n ≤ 4611686018427387904) (w : World) : Calls Tryz.prog 54 #[.agg #[.bool s1, .slice p1 l1 c1, .slice q1 k1 d1, .bool P, .bool M, .bool N, .int .u64 (T : Int)], .int .u64 (n : Int)] w fun e w' => e = .returned (.agg #[.bool s1, .slice p1 l1 c1, .slice q1 k1 d1, .bool P, .bool M, .bool N, .int .u64 ((T + n : Nat) : Int)]) ∧ Kp w w' := by
  have t1 : IntKind.u64.wrap ((T : Int) + (n : Int)) = ((T + n : Nat) : Int) := by rw [IntKind.wrap_u64]; omega
  have t2 : ¬ (4611686018427387904 < ((T + n : Nat) : Int)) := by omega
  generalize ((T + n : Nat) : Int) = TT at *
  clear hT
  go_enter Tryz.func54, Tryz.ntmps54
  go_wp2
  exact bodyPost_ret (v := .agg #[.bool s1, .slice p1 l1 c1, .slice q1 k1 d1, .bool P, .bool M, .bool N, .int .u64 TT]) (by simp [results, Tryz.results54, go_sem]) rfl ⟨rfl, (by repeat (with_reducible (first | assumption | exact Kp.refl _ | apply Kp.drew | apply Kp.alloc | apply Kp.drewN | (refine Kp.setCell ?_ (by first | omega | (simp <;> omega)) _) | (refine Kp.trans ?_ (by assumption)))))⟩
def stI (P M N : Bool) : Int := if N || (P && M) then 2 else if P then 1 else if M then -1 else 0
set_option maxRecDepth 20000 in
set_option maxHeartbeats 600000 in
theorem rstate_ (s1 : Bool) (p1 : Option Addr) (l1 c1 : Nat) (q1 : Option Addr) (k1 d1 : Nat) (P M N : Bool) (T : Int) (w : World) : Calls Tryz.prog 27 #[.agg #[.bool s1, .slice p1 l1 c1, .slice q1 k1 d1, .bool P, .bool M, .bool N, .int .u64 T]] w fun e w' => e = .returned (.int .i64 (stI P M N)) ∧ Kp w w' := by
  cases P <;> cases M <;> cases N
  · go_enter Tryz.func27, Tryz.ntmps27
    go_wp2
    exact bodyPost_ret (v := .int .i64 0) (by simp [results, Tryz.results27, go_sem]) rfl ⟨rfl, (by repeat (with_reducible (first | assumption | exact Kp.refl _ | apply Kp.drew | apply Kp.alloc | apply Kp.drewN | (refine Kp.setCell ?_ (by first | omega | (simp <;> omega)) _) | (refine Kp.trans ?_ (by assumption)))))⟩
  · go_enter Tryz.func27, Tryz.ntmps27
    go_wp2
    exact bodyPost_ret (v := .int .i64 2) (by simp [results, Tryz.results27, go_sem]) rfl ⟨rfl, (by repeat (with_reducible (first | assumption | exact Kp.refl _ | apply Kp.drew | apply Kp.alloc | apply Kp.drewN | (refine Kp.setCell ?_ (by first | omega | (simp <;> omega)) _) | (refine Kp.trans ?_ (by assumption)))))⟩
  · go_enter Tryz.func27, Tryz.ntmps27
    go_wp2
    exact bodyPost_ret (v := .int .i64 (-1)) (by simp [results, Tryz.results27, go_sem]) rfl ⟨rfl, (by repeat (with_reducible (first | assumption | exact Kp.refl _ | apply Kp.drew | apply Kp.alloc | apply Kp.drewN | (refine Kp.setCell ?_ (by first | omega | (simp <;> omega)) _) | (refine Kp.trans ?_ (by assumption)))))⟩
  · go_enter Tryz.func27, Tryz.ntmps27
    go_wp2
    exact bodyPost_ret (v := .int .i64 2) (by simp [results, Tryz.results27, go_sem]) rfl ⟨rfl, (by repeat (with_reducible (first | assumption | exact Kp.refl _ | apply Kp.drew | apply Kp.alloc | apply Kp.drewN | (refine Kp.setCell ?_ (by first | omega | (simp <;> omega)) _) | (refine Kp.trans ?_ (by assumption)))))⟩
  · go_enter Tryz.func27, Tryz.ntmps27
    go_wp2
    exact bodyPost_ret (v := .int .i64 1) (by simp [results, Tryz.results27, go_sem]) rfl ⟨rfl, (by repeat (with_reducible (first | assumption | exact Kp.refl _ | apply Kp.drew | apply Kp.alloc | apply Kp.drewN | (refine Kp.setCell ?_ (by first | omega | (simp <;> omega)) _) | (refine Kp.trans ?_ (by assumption)))))⟩
  · go_enter Tryz.func27, Tryz.ntmps27
    go_wp2
    exact bodyPost_ret (v := .int .i64 2) (by simp [results, Tryz.results27, go_sem]) rfl ⟨rfl, (by repeat (with_reducible (first | assumption | exact Kp.refl _ | apply Kp.drew | apply Kp.alloc | apply Kp.drewN | (refine Kp.setCell ?_ (by first | omega | (simp <;> omega)) _) | (refine Kp.trans ?_ (by assumption)))))⟩
  · go_enter Tryz.func27, Tryz.ntmps27
    go_wp2
    exact bodyPost_ret (v := .int .i64 2) (by simp [results, Tryz.results27, go_sem]) rfl ⟨rfl, (by repeat (with_reducible (first | assumption | exact Kp.refl _ | apply Kp.drew | apply Kp.alloc | apply Kp.drewN | (refine Kp.setCell ?_ (by first | omega | (simp <;> omega)) _) | (refine Kp.trans ?_ (by assumption)))))⟩
  · go_enter Tryz.func27, Tryz.ntmps27
    go_wp2
    exact bodyPost_ret (v := .int .i64 2) (by simp [results, Tryz.results27, go_sem]) rfl ⟨rfl, (by repeat (with_reducible (first | assumption | exact Kp.refl _ | apply Kp.drew | apply Kp.alloc | apply Kp.drewN | (refine Kp.setCell ?_ (by first | omega | (simp <;> omega)) _) | (refine Kp.trans ?_ (by assumption)))))⟩
set_option maxRecDepth 20000 in
set_option maxHeartbeats 400000 in
theorem roundX_ (d : Int) (b : Nat) (ws : List Nat) (k : Nat) (s : Int) (hs : s ≠ 0) (w : World) (hS : Sb w b ws k s) : Calls Tryz.prog 22 #[.pointer (some ⟨b, 0, none⟩), .int .i64 d] w fun e w' => e = .returned (.float .f64 (limW s)) ∧ Kp w w' := by
  have c1 := hS.state
  have t : (s != 0) = true := by simpa using hs
  have hl := limit_ s
  generalize limW s = R at *
  clear hs hS
  go_enter Tryz.func22, Tryz.ntmps22
  go_wp2_with (first | (go_at_call 47; refine (hl _).mono ?_; rintro e w' ⟨rfl, hw'⟩; obtain rfl := hw'.symm; clear hw'))
  exact bodyPost_ret (v := .float .f64 R) (by simp [results, Tryz.results22, go_sem]) rfl ⟨rfl, Kp.refl _⟩
set_option maxRecDepth 20000 in
set_option maxHeartbeats 400000 in
theorem state_ (b : Nat) (ws : List Nat) (k : Nat) (s : Int) (w : World) (hS : Sb w b ws k s) : Calls Tryz.prog 26 #[.pointer (some ⟨b, 0, none⟩)] w fun e w' => e = .returned (.int .i64 s) ∧ w' = w := by
  have c1 := hS.state
  clear hS
  go_enter Tryz.func26, Tryz.ntmps26
  go_wp2
  exact bodyPost_ret (v := .int .i64 s) (by simp [results, Tryz.results26, go_sem]) rfl ⟨rfl, rfl⟩
def sgV (V : Int) : Int := if V < 0 then -1 else if V = 0 then 0 else 1
set_option maxRecDepth 20000 in
set_option maxHeartbeats 400000 in
theorem signF_ (b : Nat) (ws : List Nat) (V : Int) (hV : Rep ws V) (hb : V.natAbs < wh) (k : Nat) (w : World) (hS : Sb w b ws k 0) : Calls Tryz.prog 24 #[.pointer (some ⟨b, 0, none⟩)] w fun e w' => e = .returned (.int .i64 (sgV V)) ∧ Kp w w' := by
  have c1 := hS.state
  have hld := loadS hS
  have hsg : ∀ w : World, Calls Tryz.prog 50 #[.agg (wc ws)] w fun e w' => e = .returned (.int .i64 (sgV V)) ∧ Kp w w' := sign_ ws V hV hb
  generalize sgV V = R at *
  clear hV hb hS
  go_enter Tryz.func24, Tryz.ntmps24
  go_upto_region 3 with fail
  refine wp_region_list ?_
  refine wpl_val rfl _ rfl ?_
  refine wpl_val rfl _ rfl ?_
  refine wpl_field rfl _ _ _ rfl _ _ rfl (fa0 b _) ?_
  refine wpl_load rfl 55 _ rfl b 0 rfl _ hld ?_
  go_wp2_with (first | (go_at_call 50; refine (hsg _).mono ?_; rintro e w1 ⟨rfl, g1⟩))
  exact bodyPost_ret (v := .int .i64 R) (by simp [results, Tryz.results24, go_sem]) rfl ⟨rfl, g1⟩
theorem zeroS : ∀ w : World, (zeroValue 57).run Tryz.prog w = .ok (.agg (wc (List.replicate 67 0) ++ #[.int .u64 0, .int .i64 0])) w := (zero_of_info (P := Tryz.prog) (t := 57) (v := .agg (wc (List.replicate 67 0) ++ #[.int .u64 0, .int .i64 0])) (n := 69) (by kernel_rfl)).1
theorem Sb.zero (w : World) : Sb (w.alloc (.cells (wc (List.replicate 67 0) ++ #[.int .u64 0, .int .i64 0]) 57)) w.heap.size (List.replicate 67 0) 0 0 := ⟨List.length_replicate, Bk.new _ _ _⟩
set_option maxRecDepth 20000 in
set_option maxHeartbeats 400000 in
theorem new_ (w : World) : Calls Tryz.prog 16 #[] w fun e w' => e = .returned (.pointer (some ⟨w.heap.size, 0, none⟩)) ∧ Sb w' w.heap.size (List.replicate 67 0) 0 0 ∧ Kp w w' := by
  have hz := zeroS
  have h1 := Sb.zero w
  have hs : (wc (List.replicate 67 0) ++ #[Value.int .u64 0, Value.int .i64 0]).size = 69 := by rw [Array.size_append, wc_size, List.length_replicate]; rfl
  generalize wc (List.replicate 67 0) ++ #[Value.int .u64 0, Value.int .i64 0] = Z at *
  have k1 : Kp w (w.alloc (.cells Z 57)) := (Kp.refl w).alloc _
  go_enter Tryz.func16, Tryz.ntmps16
  go_wp2
  exact bodyPost_ret (v := .pointer (some ⟨w.heap.size, 0, none⟩)) (by simp [results, Tryz.results16, go_sem]) rfl ⟨rfl, h1, k1⟩

def tb (K : Nat) : Nat := 2 ^ (2 * K + 2048)
theorem iv_lt (n : Bool) (m K : Nat) (hK : K = 1074) (hm : m < 9218868437227405312) : (Iv n m).natAbs < 2 ^ (K + 1024) := by
  have h := (Fq.vV_lt_iff Ieee.double m 9218868437227405312).2 hm
  have e : Fq.vV Ieee.double 9218868437227405312 = 2 ^ (K + 1024) := by rw [hK]; decide +kernel
  rw [e] at h
  unfold Iv
  cases n <;> simp <;> omega
theorem tV_le (n : Bool) (m K : Nat) (hK : K = 1074) (hm : m < 9218868437227405312) : (tV n m K).natAbs ≤ tb K := by
  have h := iv_lt n m K hK hm
  unfold tV tb
  rw [Int.natAbs_mul, Int.natAbs_natCast, show 2 * K + 2048 = (K + 1024) + (K + 1024) by omega, Nat.pow_add 2 (K + 1024)]
  exact Nat.mul_le_mul (Nat.le_of_lt h) (Nat.pow_le_pow_right (by decide) (by omega))
theorem pV_le (n n' : Bool) (m m' K : Nat) (hK : K = 1074) (hm : m < 9218868437227405312) (hm' : m' < 9218868437227405312) : (Iv n m * Iv n' m').natAbs ≤ tb K := by
  have h := iv_lt n m K hK hm
  have h' := iv_lt n' m' K hK hm'
  unfold tb
  rw [Int.natAbs_mul, show 2 * K + 2048 = (K + 1024) + (K + 1024) by omega, Nat.pow_add 2 (K + 1024)]
  exact Nat.mul_le_mul (Nat.le_of_lt h) (Nat.le_of_lt h')
theorem tb_wh (K k : Nat) (hK : K = 1074) (hk : k ≤ 4611686018427387904) : k * tb K < wh := by
  have e : 4611686018427387904 * tb K < wh := by rw [hK]; decide +kernel
  exact Nat.lt_of_le_of_lt (Nat.mul_le_mul_right _ hk) e
def Fs (w : World) (b : Nat) (V : Int) (k K : Nat) : Prop := ∃ ws, Rep ws V ∧ Sb w b ws k 0 ∧ k ≤ 4611686018427387904 ∧ V.natAbs ≤ k * tb K
theorem Fs.lt {w : World} {b : Nat} {V : Int} {k K : Nat} (h : Fs w b V k K) : b < w.heap.size := by
  obtain ⟨ws, h1, h2, h3⟩ := h; exact h2.2.lt
theorem Fs.kp {w w' : World} {b : Nat} {V : Int} {k K : Nat} (h : Fs w b V k K) (g : Kp w w') : Fs w' b V k K := by
  obtain ⟨ws, h1, h2, h3⟩ := h; exact ⟨ws, h1, h2.kp g, h3⟩
theorem Fs.kb {w w' : World} {b c : Nat} {V : Int} {k K : Nat} (h : Fs w b V k K) (g : Kb c w w') (hne : b ≠ c) : Fs w' b V k K := by
  obtain ⟨ws, h1, h2, h3⟩ := h; exact ⟨ws, h1, h2.kb g hne, h3⟩
theorem grS0 (k : Nat) (h : k ≤ 4611686018427387904) : grS k (jn 0 0) = 0 := by unfold grS jn; rw [if_neg (by omega)]; rfl
theorem Fs.grow (k : Nat) (V T : Int) (K : Nat) (h1 : V.natAbs ≤ k * tb K) (h2 : T.natAbs ≤ tb K) : (V + T).natAbs ≤ (k + 1) * tb K := by
  rw [Nat.add_mul, Nat.one_mul]
  generalize k * tb K = P at *
  generalize tb K = Q at *
  omega

theorem maskN (a : Nat) (ha : a < 18446744073709551616) : bits .and .u64 (a : Int) 4294967295 = ((a % 4294967296 : Nat) : Int) := by
  have h := bits_and_u64_nat a 4294967295 ha (by omega)
  have e : a &&& 4294967295 = a % 4294967296 := Nat.and_two_pow_sub_one_eq_mod a 32
  rw [e] at h
  exact h
theorem divN (a : Nat) : (a : Int) / 4294967296 = ((a / 4294967296 : Nat) : Int) := by omega
theorem mulNN (a b : Nat) : (a : Int) * (b : Int) = ((a * b : Nat) : Int) := (Int.natCast_mul a b).symm
theorem addNN (a b : Nat) : (a : Int) + (b : Int) = ((a + b : Nat) : Int) := (Int.natCast_add a b).symm
theorem wrapN (a : Nat) (ha : a < 18446744073709551616) : IntKind.u64.wrap (a : Int) = (a : Int) := by rw [IntKind.wrap_u64]; omega
theorem wrapM (a : Nat) : IntKind.u64.wrap (a : Int) = ((a % 18446744073709551616 : Nat) : Int) := by rw [IntKind.wrap_u64]; omega
set_option maxRecDepth 20000 in
set_option maxHeartbeats 1000000 in
theorem mul64_ (x y : Nat) (hx : x < 18446744073709551616) (hy : y < 18446744073709551616) (w : World) :
    Calls Tryz.prog 62 #[.int .u64 x, .int .u64 y] w fun e w' => e = .returned (.tuple #[.int .u64 ((x * y / 18446744073709551616 : Nat) : Int), .int .u64 ((x * y % 18446744073709551616 : Nat) : Int)]) ∧ w' = w := by
  obtain ⟨bd, bt, bw, hhi⟩ := Lib.mul64_hi x y hx hy
  have ba := Lib.half_mul_le (a := x / 4294967296) (b := y / 4294967296) (by omega) (by omega)
  have bb := Lib.half_mul_le (a := x / 4294967296) (b := y % 4294967296) (by omega) (by omega)
  have bc := Lib.half_mul_le (a := x % 4294967296) (b := y / 4294967296) (by omega) (by omega)
  have ba' : x / 4294967296 * (y / 4294967296) < 18446744073709551616 := by omega
  have bb' : x / 4294967296 * (y % 4294967296) < 18446744073709551616 := by omega
  have bc' : x % 4294967296 * (y / 4294967296) < 18446744073709551616 := by omega
  have bh1 : x / 4294967296 * (y / 4294967296) + (x / 4294967296 * (y % 4294967296) + x % 4294967296 * (y % 4294967296) / 4294967296) / 4294967296 < 18446744073709551616 := by omega
  have bh : x / 4294967296 * (y / 4294967296) + (x / 4294967296 * (y % 4294967296) + x % 4294967296 * (y % 4294967296) / 4294967296) / 4294967296 + ((x / 4294967296 * (y % 4294967296) + x % 4294967296 * (y % 4294967296) / 4294967296) % 4294967296 + x % 4294967296 * (y / 4294967296)) / 4294967296 < 18446744073709551616 := by omega
  go_enter Tryz.func62, Tryz.ntmps62
  go_wp2
  simp only [maskN x hx, maskN y hy, divN, mulNN, addNN, wrapN _ bd, wrapN _ bb', wrapN _ bt, maskN _ bt, wrapN _ bc', wrapN _ bw, wrapN _ ba', wrapN _ bh1, wrapN _ bh, wrapM (x * y)]
  rw [hhi]
  exact bodyPost_ret (v := .tuple #[.int .u64 ((x * y / 18446744073709551616 : Nat) : Int), .int .u64 ((x * y % 18446744073709551616 : Nat) : Int)]) (by simp [results, Tryz.results62, go_sem]) rfl ⟨rfl, rfl⟩

theorem mul_val (n n' : Bool) (m m' : Nat) (hm : m < 9218868437227405312) (hm' : m' < 9218868437227405312) (E : Nat) (hE : Fq.epD m + Fq.epD m' + 2148 = (E : Int)) : sgI ((n && !(m == 0)) != (n' && !(m' == 0))) * (((Fq.sgD m * Fq.sgD m' / 18446744073709551616 * 18446744073709551616 + Fq.sgD m * Fq.sgD m' % 18446744073709551616) * 2 ^ E : Nat) : Int) = Iv n m * Iv n' m' := by
  obtain ⟨v1, v2, v3, v4, v5⟩ := Fq.vlsgD m hm
  obtain ⟨u1, u2, u3, u4, u5⟩ := Fq.vlsgD m' hm'
  have v1 : Fq.sgD m * 2 ^ (Fq.epD m + 1074).toNat = Fq.vV Ieee.double m := v1
  have u1 : Fq.sgD m' * 2 ^ (Fq.epD m' + 1074).toNat = Fq.vV Ieee.double m' := u1
  have e1 : E = (Fq.epD m + 1074).toNat + (Fq.epD m' + 1074).toNat := by omega
  rw [Nat.mul_comm (Fq.sgD m * Fq.sgD m' / 18446744073709551616), Nat.div_add_mod, e1, Nat.pow_add, show Fq.sgD m * Fq.sgD m' * (2 ^ (Fq.epD m + 1074).toNat * 2 ^ (Fq.epD m' + 1074).toNat) = (Fq.sgD m * 2 ^ (Fq.epD m + 1074).toNat) * (Fq.sgD m' * 2 ^ (Fq.epD m' + 1074).toNat) from Nat.mul_mul_mul_comm _ _ _ _, v1, u1]
  unfold Iv sgI
  by_cases z : m = 0
  · have z2 : Fq.vV Ieee.double m = 0 := by rw [← v1, v3.1 z, Nat.zero_mul]
    rw [z2]; simp
  · by_cases z' : m' = 0
    · have z2 : Fq.vV Ieee.double m' = 0 := by rw [← u1, u3.1 z', Nat.zero_mul]
      rw [z2]; simp
    · rw [show (n && !(m == 0)) = n from by simp [z], show (n' && !(m' == 0)) = n' from by simp [z'], Int.natCast_mul]
      cases n <;> cases n' <;> simp [Int.neg_mul, Int.mul_neg]
theorem wrapS (a c : Int) (h1 : -5000 ≤ a) (h2 : a ≤ 5000) (h3 : -5000 ≤ c) (h4 : c ≤ 5000) : wrap64 (a + c) = a + c := by unfold wrap64; omega
set_option maxRecDepth 20000 in
set_option maxHeartbeats 1000000 in
theorem mul_ (n n' : Bool) (m m' : Nat) (hm : m < 9218868437227405312) (hm' : m' < 9218868437227405312) (b : Nat) (ws : List Nat) (V : Int) (hV : Rep ws V) (k : Nat) (s : Int) (w : World) (hS : Sb w b ws k s) : Calls Tryz.prog 37 #[.pointer (some ⟨b, 0, none⟩), .float .f64 (Fq.wD n m), .float .f64 (Fq.wD n' m')] w fun e w' => ∃ ws' : List Nat, (∃ v, e = .returned v) ∧ Sb w' b ws' ((k + 1) % 18446744073709551616) (grS ((k + 1) % 18446744073709551616) (jn s 0)) ∧ Rep ws' (V + Iv n m * Iv n' m') ∧ Kb b w w' := by
  have hsp1 := Fq.split_d n m hm
  have hsp2 := Fq.split_d n' m' hm'
  obtain ⟨v1, v2, v3, v4, v5⟩ := Fq.vlsgD m hm
  obtain ⟨u1, u2, u3, u4, u5⟩ := Fq.vlsgD m' hm'
  obtain ⟨E, hE⟩ : ∃ E : Nat, Fq.epD m + Fq.epD m' + 2148 = (E : Int) := ⟨(Fq.epD m + Fq.epD m' + 2148).toNat, by omega⟩
  have hval := mul_val n n' m m' hm hm' E hE
  have hE2 : E = E / 64 * 64 + E % 64 := by omega
  have hs1 := sg64 _ v2
  have hs2 := sg64 _ u2
  have hm64 := mul64_ (Fq.sgD m) (Fq.sgD m') hs1 hs2
  have hlt : Fq.sgD m * Fq.sgD m' / 18446744073709551616 < 18446744073709551616 := Nat.div_lt_of_lt_mul (Nat.mul_lt_mul'' hs1 hs2)
  have hly := fun (w1 : World) (h1 : Bk w1 b (wc ws ++ #[.int .u64 (k : Int), .int .i64 s]) 57) => lay_ ((n && !(m == 0)) != (n' && !(m' == 0))) (Fq.sgD m * Fq.sgD m' / 18446744073709551616) (Fq.sgD m * Fq.sgD m' % 18446744073709551616) (E / 64) (E % 64) (Fq.epD m + Fq.epD m') hlt (Nat.mod_lt _ (by decide)) (by rw [hE, ← hE2]) (Nat.mod_lt _ (by decide)) (by omega) b ws _ _ V hV w1 h1
  rw [← hE2, hval] at hly
  have hwr := wrapS (Fq.epD m) (Fq.epD m') (by omega) (by omega) (by omega) (by omega)
  have hwr2 : IntKind.i64.wrap (Fq.epD m + Fq.epD m') = Fq.epD m + Fq.epD m' := by rw [IntWalk.i64_left]; exact hwr
  have hgr := fun (w2 : World) (us : List Nat) (h2 : Sb w2 b us k s) => grow_ b us k 1 s 0 w2 h2
  have kA : Kb b w w := Kb.refl _ _
  obtain ⟨X1, hX1⟩ : ∃ X1, X1 = Fq.wD n m := ⟨_, rfl⟩
  obtain ⟨X2, hX2⟩ : ∃ X2, X2 = Fq.wD n' m' := ⟨_, rfl⟩
  rw [← hX1] at hsp1 ⊢
  rw [← hX2] at hsp2 ⊢
  generalize Fq.sgD m * Fq.sgD m' / 18446744073709551616 = ph at *
  generalize Fq.sgD m * Fq.sgD m' % 18446744073709551616 = pl at *
  generalize Fq.sgD m = sg1 at *
  generalize Fq.sgD m' = sg2 at *
  generalize Fq.epD m = ep1 at *
  generalize Fq.epD m' = ep2 at *
  generalize (n && !(m == 0)) = ng1 at *
  generalize (n' && !(m' == 0)) = ng2 at *
  clear hval hE2 hE v1 v2 v3 v4 v5 u1 u2 u3 u4 u5 hlt hs1 hs2 hX1 hX2 hV
  go_enter Tryz.func37, Tryz.ntmps37
  go_wp2_with (first | (go_at_call_of 40 (Value.float FloatKind.f64 X1); refine (hsp1 _).mono ?_; rintro e w1 ⟨rfl, g1⟩; replace hS := hS.kp g1; replace kA := kA.trans (Kb.of (g := b) g1)) | (go_at_call_of 40 (Value.float FloatKind.f64 X2); refine (hsp2 _).mono ?_; rintro e w2 ⟨rfl, g2⟩; replace hS := hS.kp g2; replace kA := kA.trans (Kb.of (g := b) g2)) | (go_at_call 62; refine (hm64 _).mono ?_; rintro e w' ⟨rfl, hw'⟩; obtain rfl := hw'.symm; clear hw'; have hly := hly _ hS.2) | (go_at_call 41; refine hly.mono ?_; rintro e w3 ⟨us, ⟨v9, rfl⟩, hB, hR, k2⟩; have hgr := hgr w3 us ⟨hR.1, hB⟩) | (go_at_call 42; refine hgr.mono ?_; rintro e w4 ⟨⟨v8, rfl⟩, hZ, k3⟩))
  exact bodyPost_end (v := .tuple #[]) (by kernel_rfl) rfl (by first | exact ⟨⟨_, rfl⟩, us, hZ, hR, (kA.trans k2).trans k3⟩ | exact ⟨us, ⟨_, rfl⟩, hZ, hR, (kA.trans k2).trans k3⟩)
set_option maxRecDepth 20000 in
set_option maxHeartbeats 600000 in
theorem overF_ (d : Int) (hd1 : -9223372036854775808 ≤ d) (hd2 : d < 9223372036854775808) (N : Nat) (hN : 1 ≤ N) (hN2 : N < 9223372036854775808) (b : Nat) (ws : List Nat) (V : Int) (hV : Rep ws V) (hb : V.natAbs < wh) (k : Nat) (w : World) (hS : Sb w b ws k 0) (hQ : Fq.Tab w) : Calls Tryz.prog 38 #[.pointer (some ⟨b, 0, none⟩), .int .i64 d, .int .i64 (N : Int)] w fun e w' => e = .returned (.float .f64 (ratW d (decide (V < 0)) V.natAbs N (-2148))) ∧ Kp w w' := by
  have hnt : ∀ w : World, Calls Tryz.prog 48 #[.agg (wc ws)] w fun e w' => ∃ (v : Value) (xs : List Int), e = .returned (.tuple #[.bool (decide (V < 0)), v]) ∧ Own w' w.heap.size v xs ∧ Wd xs ∧ xs.length = 134 ∧ val xs = V.natAbs ∧ Kp w w' := fun w => by
    by_cases c : V < 0
    · rw [decide_eq_true c]; exact natN_ ws V hV hb c w
    · rw [decide_eq_false c]; exact natP_ ws V hV hb c w
  have hsm := nsmall_ N (by omega)
  have hrt : ∀ (w1 : World) (v : Value) (xs : List Int), Own w1 w.heap.size v xs → Wd xs → xs.length = 134 → val xs = V.natAbs → Kp w w1 → ∃ (p : Option Addr) (c : Nat), v = .slice p 134 c ∧ ∀ (w2 : World) (v2 : Value), Own w2 w1.heap.size v2 (dig N) → Kp w1 w2 → ∃ (p2 : Option Addr) (l2 c2 : Nat), v2 = .slice p2 l2 c2 ∧ Calls Tryz.prog 64 #[.int .i64 d, .bool (decide (V < 0)), .slice p 134 c, .slice p2 l2 c2, .int .i64 (-2148)] w2 fun e w' => e = .returned (.float .f64 (ratW d (decide (V < 0)) V.natAbs N (-2148))) ∧ Kp w2 w' := by
    intro w1 v xs ho hw hl hv g
    obtain ⟨p, c, rfl, hx, hc⟩ := ho.arr
    refine ⟨p, c, by rw [hl], fun w2 v2 ho2 g2 => ?_⟩
    obtain ⟨p2, c2, rfl, hy, hd⟩ := ho2.arr
    refine ⟨p2, _, c2, rfl, ?_⟩
    have hNl : (dig N).length ≤ 1048576 := by
      refine Nat.le_trans (m := 2) ?_ (by decide)
      show len32 N ≤ 2
      apply Classical.byContradiction
      intro h
      have := len32_lt N 2 (by omega)
      rw [show (4294967296 : Nat) ^ 2 = 18446744073709551616 from rfl] at this
      omega
    have := prat_ d (decide (V < 0)) p p2 c c2 xs (dig N) (-2148) w2 (Fq.Tab.grown hQ (g.trans g2)) hd1 hd2 (hx.grown g2) hy hw (Wd_dig N) (by omega) hNl hc hd
    rw [hl, hv, val_dig] at this
    exact this
  have c1 := hS.state
  have hld := loadS hS
  generalize ratW d (decide (V < 0)) V.natAbs N (-2148) = R at *
  generalize decide (V < 0) = ng at *
  have t1 : ¬ ((N : Int) < 1) := by omega
  have t2 : IntKind.u64.wrap (N : Int) = (N : Int) := by rw [IntKind.wrap_u64]; omega
  clear hV hb hQ hd1 hd2 hN hN2
  go_enter Tryz.func38, Tryz.ntmps38
  go_upto_region 5 with fail
  refine wp_region_list ?_
  refine wpl_val rfl _ rfl ?_
  refine wpl_val rfl _ rfl ?_
  refine wpl_field rfl _ _ _ rfl _ _ rfl (fa0 b _) ?_
  refine wpl_load rfl 55 _ rfl b 0 rfl _ hld ?_
  go_wp2_with (first | (go_at_call 48; refine (hnt _).mono ?_; rintro e w1 ⟨v, xs, rfl, ho, hwx, hxl, hvx, g1⟩; have hsm := hsm w1; have hrt := hrt w1 v xs ho hwx hxl hvx g1; obtain ⟨p, c, rfl, hrt⟩ := hrt; clear hxl hvx hwx ho) | (go_at_call 65; refine hsm.mono ?_; rintro e w2 ⟨v2, rfl, ho2, g2⟩; have hrt := hrt w2 v2 ho2 g2; obtain ⟨p2, l2, c2, rfl, hrt⟩ := hrt; clear ho2) | (go_at_call 64; refine hrt.mono ?_; rintro e w3 ⟨rfl, g3⟩))
  exact bodyPost_ret (v := .float .f64 R) (by simp [results, Tryz.results38, go_sem]) rfl ⟨rfl, (g1.trans g2).trans g3⟩
theorem fadd_ (n : Bool) (m : Nat) (hm : m < 9218868437227405312) (K : Nat) (hK : K = 1074) (b : Nat) (V : Int) (k : Nat) (hk : k < 4611686018427387904) (w : World) (h : Fs w b V k K) : Calls Tryz.prog 17 #[.pointer (some ⟨b, 0, none⟩), .float .f64 (Fq.wD n m)] w fun e w' => (∃ v, e = .returned v) ∧ Fs w' b (V + tV n m K) (k + 1) K ∧ Kb b w w' := by
  obtain ⟨ws, h1, h2, h3, h4⟩ := h
  refine (add_ n m K hK hm b ws V h1 k 0 w h2).mono ?_
  rintro e w' ⟨us, hv, hS, hR, g⟩
  rw [show (k + 1) % 18446744073709551616 = k + 1 from Nat.mod_eq_of_lt (by omega), grS0 (k + 1) (by omega)] at hS
  exact ⟨hv, ⟨us, hR, hS, by omega, Fs.grow k V _ K h4 (tV_le n m K hK hm)⟩, g⟩
theorem fmul_ (n n' : Bool) (m m' : Nat) (hm : m < 9218868437227405312) (hm' : m' < 9218868437227405312) (K : Nat) (hK : K = 1074) (b : Nat) (V : Int) (k : Nat) (hk : k < 4611686018427387904) (w : World) (h : Fs w b V k K) : Calls Tryz.prog 37 #[.pointer (some ⟨b, 0, none⟩), .float .f64 (Fq.wD n m), .float .f64 (Fq.wD n' m')] w fun e w' => (∃ v, e = .returned v) ∧ Fs w' b (V + Iv n m * Iv n' m') (k + 1) K ∧ Kb b w w' := by
  obtain ⟨ws, h1, h2, h3, h4⟩ := h
  refine (mul_ n n' m m' hm hm' b ws V h1 k 0 w h2).mono ?_
  rintro e w' ⟨us, hv, hS, hR, g⟩
  rw [show (k + 1) % 18446744073709551616 = k + 1 from Nat.mod_eq_of_lt (by omega), grS0 (k + 1) (by omega)] at hS
  exact ⟨hv, ⟨us, hR, hS, by omega, Fs.grow k V _ K h4 (pV_le n n' m m' K hK hm hm')⟩, g⟩

theorem fround_ (d : Int) (hd1 : -9223372036854775808 ≤ d) (hd2 : d < 9223372036854775808) (K : Nat) (hK : K = 1074) (b : Nat) (V : Int) (k : Nat) (w : World) (h : Fs w b V k K) (hT : Tab w) (hQ : Fq.Tab w) : Calls Tryz.prog 22 #[.pointer (some ⟨b, 0, none⟩), .int .i64 d] w fun e w' => e = .returned (.float .f64 (fmaW d V)) ∧ Kp w w' := by
  obtain ⟨ws, h1, h2, h3, h4⟩ := h
  exact roundF_ d hd1 hd2 b ws V h1 (Nat.lt_of_le_of_lt h4 (tb_wh K k hK h3)) k w h2 hT hQ
theorem fover_ (d : Int) (hd1 : -9223372036854775808 ≤ d) (hd2 : d < 9223372036854775808) (N : Nat) (hN : 1 ≤ N) (hN2 : N < 9223372036854775808) (K : Nat) (hK : K = 1074) (b : Nat) (V : Int) (k : Nat) (w : World) (h : Fs w b V k K) (hQ : Fq.Tab w) : Calls Tryz.prog 38 #[.pointer (some ⟨b, 0, none⟩), .int .i64 d, .int .i64 (N : Int)] w fun e w' => e = .returned (.float .f64 (ratW d (decide (V < 0)) V.natAbs N (-2148))) ∧ Kp w w' := by
  obtain ⟨ws, h1, h2, h3, h4⟩ := h
  exact overF_ d hd1 hd2 N hN hN2 b ws V h1 (Nat.lt_of_le_of_lt h4 (tb_wh K k hK h3)) k w h2 hQ
theorem fsign_ (K : Nat) (hK : K = 1074) (b : Nat) (V : Int) (k : Nat) (w : World) (h : Fs w b V k K) : Calls Tryz.prog 24 #[.pointer (some ⟨b, 0, none⟩)] w fun e w' => e = .returned (.int .i64 (sgV V)) ∧ Kp w w' := by
  obtain ⟨ws, h1, h2, h3, h4⟩ := h
  exact signF_ b ws V h1 (Nat.lt_of_le_of_lt h4 (tb_wh K k hK h3)) k w h2
theorem fstate_ (K : Nat) (b : Nat) (V : Int) (k : Nat) (w : World) (h : Fs w b V k K) : Calls Tryz.prog 26 #[.pointer (some ⟨b, 0, none⟩)] w fun e w' => e = .returned (.int .i64 0) ∧ w' = w := by
  obtain ⟨ws, h1, h2, h3, h4⟩ := h
  exact state_ b ws k 0 w h2
theorem fnew_ (K : Nat) (w : World) : Calls Tryz.prog 16 #[] w fun e w' => e = .returned (.pointer (some ⟨w.heap.size, 0, none⟩)) ∧ Fs w' w.heap.size 0 0 K ∧ Kp w w' := by
  refine (new_ w).mono ?_
  rintro e w' ⟨rfl, hS, g⟩
  exact ⟨rfl, ⟨_, Rep.zero, hS, by decide, by simp⟩, g⟩

def St (w : World) (b : Nat) (V : Int) (k : Nat) (s : Int) : Prop := ∃ ws, Rep ws V ∧ Sb w b ws k s
theorem St.kp {w w' : World} {b : Nat} {V : Int} {k : Nat} {s : Int} (h : St w b V k s) (g : Kp w w') : St w' b V k s := by
  obtain ⟨ws, h1, h2⟩ := h; exact ⟨ws, h1, h2.kp g⟩
theorem St.kb {w w' : World} {b c : Nat} {V : Int} {k : Nat} {s : Int} (h : St w b V k s) (g : Kb c w w') (hne : b ≠ c) : St w' b V k s := by
  obtain ⟨ws, h1, h2⟩ := h; exact ⟨ws, h1, h2.kb g hne⟩
theorem St.lt {w : World} {b : Nat} {V : Int} {k : Nat} {s : Int} (h : St w b V k s) : b < w.heap.size := by
  obtain ⟨ws, h1, h2⟩ := h; exact h2.2.lt
def xS (X : Nat) : Int := tS (decide (9223372036854775808 ≤ X)) (X % 9223372036854775808)
theorem wD_parts (n : Bool) (m : Nat) (hm : m < 9223372036854775808) : Fq.wD n m % 9223372036854775808 = m ∧ decide (9223372036854775808 ≤ Fq.wD n m) = n := by
  unfold Fq.wD
  cases n
  · simp; omega
  · simp; omega
def ArrF (w : World) (p : Option Addr) (xs : List Nat) : Prop := xs = [] ∨ ∃ b off, p = some ⟨b, off, none⟩ ∧ ∀ j, j < xs.length → w.cell? ⟨b, off + j, none⟩ = some (.float .f64 (xs.getD j 0))
def sumS (xs : List Nat) : Int := xs.foldl (fun s x => jn s (xS x)) 0

def rdW (d V s : Int) : Nat := if s = 0 then fmaW d V else limW s
theorem stround_ (d : Int) (hd1 : -9223372036854775808 ≤ d) (hd2 : d < 9223372036854775808) (b : Nat) (V : Int) (k : Nat) (s : Int) (hb : V.natAbs < wh) (w : World) (h : St w b V k s) (hT : Tab w) (hQ : Fq.Tab w) : Calls Tryz.prog 22 #[.pointer (some ⟨b, 0, none⟩), .int .i64 d] w fun e w' => e = .returned (.float .f64 (rdW d V s)) ∧ Kp w w' := by
  obtain ⟨ws, h1, h2⟩ := h
  unfold rdW
  by_cases c : s = 0
  · rw [if_pos c]; subst c; exact roundF_ d hd1 hd2 b ws V h1 hb k w h2 hT hQ
  · rw [if_neg c]; exact roundX_ d b ws k s c w h2
theorem St.zero (w : World) : St (w.alloc (.cells (wc (List.replicate 67 0) ++ #[.int .u64 0, .int .i64 0]) 57)) w.heap.size 0 0 0 := ⟨_, Rep.zero, Sb.zero w⟩
set_option maxRecDepth 20000 in
set_option maxHeartbeats 600000 in
theorem ends_ (s1 : Bool) (p1 : Option Addr) (l1 c1 : Nat) (q1 : Option Addr) (k1 d1 : Nat) (P M N : Bool) (T : Int) (hz : stI P M N ≠ 0) (w : World) : Calls Tryz.prog 28 #[.agg #[.bool s1, .slice p1 l1 c1, .slice q1 k1 d1, .bool P, .bool M, .bool N, .int .u64 T]] w fun e w' => e = .returned (.int .u64 ((limW (stI P M N) : Nat) : Int)) ∧ Kp w w' := by
  have hst := rstate_ s1 p1 l1 c1 q1 k1 d1 P M N T
  have cs : stI P M N = 1 ∨ stI P M N = -1 ∨ stI P M N = 2 := by unfold stI at hz ⊢; cases P <;> cases M <;> cases N <;> simp at hz ⊢
  generalize stI P M N = S at *
  rcases cs with rfl | rfl | rfl
  · go_enter Tryz.func28, Tryz.ntmps28
    go_wp2_with (first | (go_at_call 27; refine (hst _).mono ?_; rintro e w1 ⟨rfl, g1⟩; have r0 := kkeep g1 (b := w.heap.size) (o := 0) (v := .bool s1) (by simp); have r1 := kkeep g1 (b := w.heap.size) (o := 1) (v := .slice p1 l1 c1) (by simp); have r2 := kkeep g1 (b := w.heap.size) (o := 2) (v := .slice q1 k1 d1) (by simp); have r3 := kkeep g1 (b := w.heap.size) (o := 3) (v := .bool P) (by simp); have r4 := kkeep g1 (b := w.heap.size) (o := 4) (v := .bool M) (by simp); have r5 := kkeep g1 (b := w.heap.size) (o := 5) (v := .bool N) (by simp); have r6 := kkeep g1 (b := w.heap.size) (o := 6) (v := .int .u64 T) (by simp)))
    exact bodyPost_ret (v := .int .u64 9218868437227405312) (by simp [results, Tryz.results28, go_sem]) rfl ⟨rfl, ((Kp.refl w).alloc _).trans g1⟩
  · go_enter Tryz.func28, Tryz.ntmps28
    go_wp2_with (first | (go_at_call 27; refine (hst _).mono ?_; rintro e w1 ⟨rfl, g1⟩; have r0 := kkeep g1 (b := w.heap.size) (o := 0) (v := .bool s1) (by simp); have r1 := kkeep g1 (b := w.heap.size) (o := 1) (v := .slice p1 l1 c1) (by simp); have r2 := kkeep g1 (b := w.heap.size) (o := 2) (v := .slice q1 k1 d1) (by simp); have r3 := kkeep g1 (b := w.heap.size) (o := 3) (v := .bool P) (by simp); have r4 := kkeep g1 (b := w.heap.size) (o := 4) (v := .bool M) (by simp); have r5 := kkeep g1 (b := w.heap.size) (o := 5) (v := .bool N) (by simp); have r6 := kkeep g1 (b := w.heap.size) (o := 6) (v := .int .u64 T) (by simp)))
    exact bodyPost_ret (v := .int .u64 18442240474082181120) (by simp [results, Tryz.results28, go_sem]) rfl ⟨rfl, ((Kp.refl w).alloc _).trans g1⟩
  · go_enter Tryz.func28, Tryz.ntmps28
    go_wp2_with (first | (go_at_call 27; refine (hst _).mono ?_; rintro e w1 ⟨rfl, g1⟩; have r0 := kkeep g1 (b := w.heap.size) (o := 0) (v := .bool s1) (by simp); have r1 := kkeep g1 (b := w.heap.size) (o := 1) (v := .slice p1 l1 c1) (by simp); have r2 := kkeep g1 (b := w.heap.size) (o := 2) (v := .slice q1 k1 d1) (by simp); have r3 := kkeep g1 (b := w.heap.size) (o := 3) (v := .bool P) (by simp); have r4 := kkeep g1 (b := w.heap.size) (o := 4) (v := .bool M) (by simp); have r5 := kkeep g1 (b := w.heap.size) (o := 5) (v := .bool N) (by simp); have r6 := kkeep g1 (b := w.heap.size) (o := 6) (v := .int .u64 T) (by simp)))
    exact bodyPost_ret (v := .int .u64 9221120237041090561) (by simp [results, Tryz.results28, go_sem]) rfl ⟨rfl, ((Kp.refl w).alloc _).trans g1⟩
set_option maxRecDepth 20000 in
set_option maxHeartbeats 600000 in
theorem rround_ (d : Int) (s1 : Bool) (p1 : Option Addr) (l1 c1 : Nat) (q1 : Option Addr) (k1 d1 : Nat) (P M N : Bool) (T : Int) (V : Int) (E K B : Nat) (hK : K = 1074) (hE : E = K + K) (hB : B ≤ 60000) (hV : V.natAbs < 2 ^ B) (b1 : Nat) (w : World) (h1 : Dy b1 w s1 p1 l1 c1 q1 k1 d1 V E) : Calls Tryz.prog 7 #[.agg #[.bool s1, .slice p1 l1 c1, .slice q1 k1 d1, .bool P, .bool M, .bool N, .int .u64 T], .int .i64 d] w fun e w' => e = .returned (.int .u64 ((rdW d V (stI P M N) : Nat) : Int)) ∧ Kp w w' := by
  have hst := rstate_ s1 p1 l1 c1 q1 k1 d1 P M N T
  have hbi := fun (w' : World) (g : Kp w w') => dybits_ d s1 p1 l1 c1 q1 k1 d1 V E K B hK hE hB hV b1 w' (h1.kp g)
  unfold rdW
  by_cases c : stI P M N = 0
  · rw [if_pos c]
    rw [c] at hst
    generalize fmaW d V = R at *
    clear hK hE hB hV h1 c
    go_enter Tryz.func7, Tryz.ntmps7
    go_wp2_with (first | (go_at_call 27; refine (hst _).mono ?_; rintro e w1 ⟨rfl, g1⟩; have r0 := kkeep g1 (b := w.heap.size) (o := 0) (v := .bool s1) (by simp); have r1 := kkeep g1 (b := w.heap.size) (o := 1) (v := .slice p1 l1 c1) (by simp); have r2 := kkeep g1 (b := w.heap.size) (o := 2) (v := .slice q1 k1 d1) (by simp); have r3 := kkeep g1 (b := w.heap.size) (o := 3) (v := .bool P) (by simp); have r4 := kkeep g1 (b := w.heap.size) (o := 4) (v := .bool M) (by simp); have r5 := kkeep g1 (b := w.heap.size) (o := 5) (v := .bool N) (by simp); have r6 := kkeep g1 (b := w.heap.size) (o := 6) (v := .int .u64 T) (by simp)) | (go_at_call 29; refine (hbi _ ?q9).mono ?_; (case q9 => exact ((Kp.refl w).alloc _).trans g1); rintro e w2 ⟨rfl, g2⟩))
    exact bodyPost_ret (v := .int .u64 (R : Int)) (by simp [results, Tryz.results7, go_sem]) rfl ⟨rfl, (((Kp.refl w).alloc _).trans g1).trans g2⟩
  · rw [if_neg c]
    have hen := ends_ s1 p1 l1 c1 q1 k1 d1 P M N T c
    have t : (stI P M N != 0) = true := by simpa using c
    generalize limW (stI P M N) = R at *
    generalize stI P M N = S at *
    clear hK hE hB hV h1 c hbi
    go_enter Tryz.func7, Tryz.ntmps7
    go_wp2_with (first | (go_at_call 27; refine (hst _).mono ?_; rintro e w1 ⟨rfl, g1⟩; have r0 := kkeep g1 (b := w.heap.size) (o := 0) (v := .bool s1) (by simp); have r1 := kkeep g1 (b := w.heap.size) (o := 1) (v := .slice p1 l1 c1) (by simp); have r2 := kkeep g1 (b := w.heap.size) (o := 2) (v := .slice q1 k1 d1) (by simp); have r3 := kkeep g1 (b := w.heap.size) (o := 3) (v := .bool P) (by simp); have r4 := kkeep g1 (b := w.heap.size) (o := 4) (v := .bool M) (by simp); have r5 := kkeep g1 (b := w.heap.size) (o := 5) (v := .bool N) (by simp); have r6 := kkeep g1 (b := w.heap.size) (o := 6) (v := .int .u64 T) (by simp)) | (go_at_call 28; refine (hen _).mono ?_; rintro e w2 ⟨rfl, g2⟩))
    exact bodyPost_ret (v := .int .u64 (R : Int)) (by simp [results, Tryz.results7, go_sem]) rfl ⟨rfl, (((Kp.refl w).alloc _).trans g1).trans g2⟩

def H7c (w : World) (b : Nat) (v0 v1 v2 v3 v4 v5 v6 : Value) : Prop := w.cell? ⟨b, 0, none⟩ = some v0 ∧ w.cell? ⟨b, 1, none⟩ = some v1 ∧ w.cell? ⟨b, 2, none⟩ = some v2 ∧ w.cell? ⟨b, 3, none⟩ = some v3 ∧ w.cell? ⟨b, 4, none⟩ = some v4 ∧ w.cell? ⟨b, 5, none⟩ = some v5 ∧ w.cell? ⟨b, 6, none⟩ = some v6 ∧ w.frozen? ⟨b, 0, none⟩ = false ∧ w.frozen? ⟨b, 1, none⟩ = false ∧ w.frozen? ⟨b, 2, none⟩ = false ∧ w.frozen? ⟨b, 3, none⟩ = false ∧ w.frozen? ⟨b, 4, none⟩ = false ∧ w.frozen? ⟨b, 5, none⟩ = false ∧ w.frozen? ⟨b, 6, none⟩ = false
theorem H7c.keep {W w : World} {b : Nat} {v0 v1 v2 v3 v4 v5 v6 : Value} (h : H7c W b v0 v1 v2 v3 v4 v5 v6) (g : Kp W w) : H7c w b v0 v1 v2 v3 v4 v5 v6 := by
  obtain ⟨h0, h1, h2, h3, h4, h5, h6, h7, h8, h9, h10, h11, h12, h13⟩ := h
  exact ⟨kkeep g h0, kkeep g h1, kkeep g h2, kkeep g h3, kkeep g h4, kkeep g h5, kkeep g h6, (kfro g (cell_lt h0)).trans h7, (kfro g (cell_lt h0)).trans h8, (kfro g (cell_lt h0)).trans h9, (kfro g (cell_lt h0)).trans h10, (kfro g (cell_lt h0)).trans h11, (kfro g (cell_lt h0)).trans h12, (kfro g (cell_lt h0)).trans h13⟩
theorem H7c.new (w : World) (v0 v1 v2 v3 v4 v5 v6 : Value) (t : TypeId) : H7c (w.alloc (.cells #[v0, v1, v2, v3, v4, v5, v6] t)) w.heap.size v0 v1 v2 v3 v4 v5 v6 := by
  unfold H7c; simp [go_sem]
theorem H7c.lt {w : World} {b : Nat} {v0 v1 v2 v3 v4 v5 v6 : Value} (h : H7c w b v0 v1 v2 v3 v4 v5 v6) : b < w.heap.size := cell_lt h.1
set_option maxRecDepth 20000 in
set_option maxHeartbeats 1000000 in
theorem H7c.put {w : World} {b : Nat} {v0 v1 v2 v3 v4 v5 v6 : Value} (h : H7c w b v0 v1 v2 v3 v4 v5 v6) (u0 u1 u2 u3 u4 u5 u6 : Value) : H7c ((((((((w.setCell ⟨b, 0, none⟩ u0).setCell ⟨b, 1, none⟩ u1).setCell ⟨b, 2, none⟩ u2).setCell ⟨b, 3, none⟩ u3).setCell ⟨b, 4, none⟩ u4).setCell ⟨b, 5, none⟩ u5).setCell ⟨b, 6, none⟩ u6)) b u0 u1 u2 u3 u4 u5 u6 := by
  obtain ⟨h0, h1, h2, h3, h4, h5, h6, h7, h8, h9, h10, h11, h12, h13⟩ := h
  unfold H7c; simp [go_sem, h0, h1, h2, h3, h4, h5, h6, h7, h8, h9, h10, h11, h12, h13]
theorem H7c.far1 {w : World} {b : Nat} {v0 v1 v2 v3 v4 v5 v6 : Value} (h : H7c w b v0 v1 v2 v3 v4 v5 v6) (x : Addr) (hne : x.block ≠ b) (u : Value) : H7c (w.setCell x u) b v0 v1 v2 v3 v4 v5 v6 := by
  obtain ⟨h0, h1, h2, h3, h4, h5, h6, h7, h8, h9, h10, h11, h12, h13⟩ := h
  exact ⟨(World.cell?_setCell_far _ _ _ _ hne).trans h0, (World.cell?_setCell_far _ _ _ _ hne).trans h1, (World.cell?_setCell_far _ _ _ _ hne).trans h2, (World.cell?_setCell_far _ _ _ _ hne).trans h3, (World.cell?_setCell_far _ _ _ _ hne).trans h4, (World.cell?_setCell_far _ _ _ _ hne).trans h5, (World.cell?_setCell_far _ _ _ _ hne).trans h6, (World.frozen?_setCell _ _ _ _).trans h7, (World.frozen?_setCell _ _ _ _).trans h8, (World.frozen?_setCell _ _ _ _).trans h9, (World.frozen?_setCell _ _ _ _).trans h10, (World.frozen?_setCell _ _ _ _).trans h11, (World.frozen?_setCell _ _ _ _).trans h12, (World.frozen?_setCell _ _ _ _).trans h13⟩

theorem Dy.set {base : Nat} {w : World} {s1 : Bool} {p1 : Option Addr} {l1 c1 : Nat} {q1 : Option Addr} {k1 d1 : Nat} {V : Int} {E : Nat} (h : Dy base w s1 p1 l1 c1 q1 k1 d1 V E) {x : Addr} (hx : x.block < base) (u : Value) : Dy base (w.setCell x u) s1 p1 l1 c1 q1 k1 d1 V E := by
  obtain ⟨a, j, h1, h2, h3⟩ := h
  exact ⟨a, j, Own.setOther h1 hx u, Own.setOther h2 hx u, h3⟩
end Go.Proofs.YtokhnokobkmmkaaGreatDoor
