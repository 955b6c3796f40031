import Derived.Test.YthdnajcgdngmcaaGreatDoorKNPw
import Derived.Test.YthdnajcgdngmcaaGreatDoorKPMc
namespace Go.Proofs.YthdnajcgdngmcaaGreatDoor
open Go.RowKit
set_option maxRecDepth 20000 in
set_option maxHeartbeats 1000000 in
theorem power_ (d : Int) (s : Bool) (a k : Nat) (ea N : Int) (va : Value) (w : World) (hT : Tab w) (hQ : Fq.Tab w) (hd1 : -9223372036854775808 ≤ d) (hd2 : d < 9223372036854775808) (ha : Ls w va (dig a)) (la : a < 9007199254740992) (ea1 : -1074 ≤ ea) (ea2 : ea ≤ 2048) (hk0 : 0 < k) (hk : k ≤ 1024) (hN : N = (k : Int) ∨ N = -(k : Int)) :
    Calls Tryz.prog 115 #[.agg #[.bool s, va, .int .i64 ea], .int .i64 d, .int .i64 N] w fun e w' => e = .returned (.float .f64 (if N < 0 then ratW d (s && decide (k % 2 = 1)) 1 (a ^ k) (ea * N) else ofW d (s && decide (k % 2 = 1)) (a ^ k) (ea * N))) ∧ Kp w w' := by
  obtain ⟨pa, ca, rfl, ha, hca⟩ := ha
  obtain ⟨La, hLa⟩ : ∃ La, La = (dig a).length := ⟨_, rfl⟩
  rw [← hLa]
  obtain ⟨B, hB⟩ : ∃ B, B = w.heap.size := ⟨_, rfl⟩
  obtain ⟨w0, hw0⟩ : ∃ w0, w0 = w.alloc (.cells #[.bool s, .slice pa La ca, .int .i64 ea] 95) := ⟨_, rfl⟩
  have hk9 : Kp w w0 := by rw [hw0]; exact (Kp.refl w).alloc _
  have x0 : w0.cell? ⟨B, 0, none⟩ = some (.bool s) := by rw [hw0, hB]; simp [go_sem]
  have x1 : w0.cell? ⟨B, 1, none⟩ = some (.slice pa La ca) := by rw [hw0, hB]; simp [go_sem]
  have x2 : w0.cell? ⟨B, 2, none⟩ = some (.int .i64 ea) := by rw [hw0, hB]; simp [go_sem]
  have lp := pow_len a k la hk
  have lsa : len32 a ≤ 2 := dlen a 2 (by
    have : blen a ≤ 53 := by rw [blen_le_iff, show (2 : Nat) ^ 53 = 9007199254740992 from by decide]; exact la
    omega)
  have hp := npow_ pa ca (dig a) w0 (k : Int) (ha.grown hk9) (Wd_dig a) (by change len32 a ≤ _; omega) hca
  rw [val_dig, ← hLa] at hp
  have hpN : powN a (k : Int) = (dig (a ^ k), 0) := by
    unfold powN
    rw [if_neg (by omega), if_neg (by omega), show ((k : Int)).toNat = k from by omega, if_neg (by omega)]
  rw [hpN] at hp
  obtain ⟨q1, q2⟩ := odd_i N k hN
  obtain ⟨ob, hob⟩ : ∃ ob, ob = decide (k % 2 = 1) := ⟨_, rfl⟩
  rw [← hob] at q1 q2 ⊢
  have we : wrap64 (ea * N) = ea * N := by
    refine w64x _ ?_ ?_
    · have h1 : (ea * N).natAbs ≤ 2048 * 1024 := by rw [Int.natAbs_mul]; exact Nat.mul_le_mul (by omega) (by omega)
      omega
    · have h1 : (ea * N).natAbs ≤ 2048 * 1024 := by rw [Int.natAbs_mul]; exact Nat.mul_le_mul (by omega) (by omega)
      omega
  have we2 : IntKind.i64.wrap (ea * N) = ea * N := by
    have h1 : (ea * N).natAbs ≤ 2048 * 1024 := by rw [Int.natAbs_mul]; exact Nat.mul_le_mul (by omega) (by omega)
    simp [IntKind.wrap, IntKind.bits, IntKind.signed]; omega
  have HO : Hid (∀ (pv : Option Addr) (cv : Nat) (w1 : World), Kp w0 w1 → Arr w1 pv (dig (a ^ k)) → (dig (a ^ k)).length ≤ cv → Calls Tryz.prog 135 #[.int .i64 d, .bool (s && ob), .slice pv (dig (a ^ k)).length cv, .int .i64 (ea * N)] w1 fun e w' => e = .returned (.float .f64 (ofW d (s && ob) (a ^ k) (ea * N))) ∧ Kp w1 w') := fun pv cv w1 kk ar ll => by
    have h := pof_ d (s && ob) pv cv (dig (a ^ k)) (ea * N) w1 (hT.grown (hk9.trans kk)) (Fq.Tab.grown hQ (hk9.trans kk)) hd1 hd2 ar (Wd_dig _) (by change len32 _ ≤ _; omega) ll
    rw [val_dig] at h
    exact h
  have HRt : Hid (∀ (pv : Option Addr) (cv : Nat) (ps : Option Addr) (cs : Nat) (w1 : World), Kp w0 w1 → Arr w1 pv (dig (a ^ k)) → (dig (a ^ k)).length ≤ cv → Arr w1 ps (dig 1) → (dig 1).length ≤ cs → Calls Tryz.prog 144 #[.int .i64 d, .bool (s && ob), .slice ps (dig 1).length cs, .slice pv (dig (a ^ k)).length cv, .int .i64 (ea * N)] w1 fun e w' => e = .returned (.float .f64 (ratW d (s && ob) 1 (a ^ k) (ea * N))) ∧ Kp w1 w') := fun pv cv ps cs w1 kk ar ll ar' ll' => by
    have h := prat_ d (s && ob) ps pv cs cv (dig 1) (dig (a ^ k)) (ea * N) w1 (Fq.Tab.grown hQ (hk9.trans kk)) hd1 hd2 ar' ar (Wd_dig _) (Wd_dig _) (by rw [dig_one]; decide) (by change len32 _ ≤ _; omega) ll' ll
    rw [val_dig, val_dig] at h
    exact h
  have HW : Hid (w0 = w.alloc (.cells #[.bool s, .slice pa La ca, .int .i64 ea] 95) ∧ B = w.heap.size ∧ Kp w w0) := ⟨hw0, hB, hk9⟩
  have HS : Hid (∀ w1 : World, Calls Tryz.prog 133 #[.int .u64 1] w1 fun e w' => ∃ r, e = .returned r ∧ Own w' w1.heap.size r (dig 1) ∧ Kp w1 w') := fun w1 => nsmall_ 1 (by decide) w1
  clear hw0 hB hk9 ha hca hLa la lp lsa hpN hT hQ hd1 hd2 hob
  by_cases c : N < 0
  · rw [if_pos c]
    have HN : Hid (-N = (k : Int)) := (by omega : -N = (k : Int))
    have cb : decide (N < 0) = true := decide_eq_true c
    have bN : -1024 ≤ N ∧ N ≤ 1024 := by omega
    obtain ⟨bN1, bN2⟩ := bN
    clear hN hk0 hk HO
    obtain ⟨st, hst⟩ : ∃ st, st = (s && ob) := ⟨_, rfl⟩
    rw [← hst] at HRt ⊢
    obtain ⟨Z, hZ⟩ : ∃ Z, Z = ratW d st 1 (a ^ k) (ea * N) := ⟨_, rfl⟩
    rw [← hZ] at HRt ⊢
    clear hZ
    cases s
    · rw [show (false && ob) = false from rfl] at hst
      subst hst
      clear q1 q2
      go_enter Tryz.func115, Tryz.ntmps115
      go_wp2_with fail
      rw [← HW.out.2.1]
      try rw [← HW.out.1]
      try go_wp2_with fail
      rw [HN.out]
      refine hp.mono ?_; rintro e w1 ⟨v, rfl, ho, k1⟩
      obtain ⟨pv, cv, rfl, hav, hcv⟩ := ho.arr
      have HR : Hid (∀ (vs : Value) (W : World), Kp w1 W → Ls W vs (dig 1) → Calls Tryz.prog 144 #[.int .i64 d, .bool false, vs, .slice pv (dig (a ^ k)).length cv, .int .i64 (ea * N)] W fun e w' => e = .returned (.float .f64 Z) ∧ Kp W w') := fun vs W kk ⟨ps, cs, e9, ar, ll⟩ => by
        subst e9
        exact HRt.out pv cv ps cs W (k1.trans kk) (hav.grown kk) hcv ar ll
      obtain ⟨LV, hLV⟩ : ∃ LV, LV = (dig (a ^ k)).length := ⟨_, rfl⟩
      rw [← hLV] at HR ⊢
      replace x2 := kkeep k1 x2
      have kk := HW.out.2.2.trans k1
      clear hp ho hav hcv hLV k1 HRt
      go_upto_region 4 with fail
      go_region_held3 (fun w' => w'.cell? ⟨B, 2, none⟩ = some (.int .i64 ea)) ((refine kkeep (W := w1) ?_ x2; ((repeat (first | with_reducible exact kB | with_reducible exact kA | with_reducible exact Kp.refl _ | with_reducible refine Kp.drew ?_)); done))) (first | (go_at_call 144; have hh := o1; refine (HR.out _ _ ?q1 ?q2).mono ?_; (case q1 => ((repeat (first | with_reducible exact kB | with_reducible exact kA | with_reducible exact Kp.refl _ | with_reducible refine Kp.drew ?_)); done)); (case q2 => exact hls); rintro e v2 ⟨rfl, k12⟩; have kB : Kp w1 v2 := Kp.trans ?q3 k12; (case q3 => ((repeat (first | with_reducible exact kB | with_reducible exact kA | with_reducible exact Kp.refl _ | with_reducible refine Kp.drew ?_)); done))) | (go_at_call 133; refine (HS.out _).mono ?_; rintro e v1 ⟨vs, rfl, o1, k01⟩; have kA : Kp w1 v1 := Kp.trans ?q4 k01; (case q4 => ((repeat (first | with_reducible exact kB | with_reducible exact kA | with_reducible exact Kp.refl _ | with_reducible refine Kp.drew ?_)); done)); have hls := o1.ls; obtain ⟨ps, cs, rfl, as_, ls_⟩ := o1.arr))
      have k02 := kk.trans kB
      clear kk kB kA k01 k12 HR HS o1 hls as_ ls_
      go_wp2
      exact bodyPost_ret (v := .float .f64 Z) (by simp [results, Tryz.results115, go_sem]) rfl ⟨rfl, k02⟩
    · rw [show (true && ob) = ob from rfl] at hst
      subst hst
      go_enter Tryz.func115, Tryz.ntmps115
      go_wp2_with fail
      rw [← HW.out.2.1]
      try rw [← HW.out.1]
      try go_wp2_with fail
      rw [HN.out]
      refine hp.mono ?_; rintro e w1 ⟨v, rfl, ho, k1⟩
      obtain ⟨pv, cv, rfl, hav, hcv⟩ := ho.arr
      have HR : Hid (∀ (vs : Value) (W : World), Kp w1 W → Ls W vs (dig 1) → Calls Tryz.prog 144 #[.int .i64 d, .bool st, vs, .slice pv (dig (a ^ k)).length cv, .int .i64 (ea * N)] W fun e w' => e = .returned (.float .f64 Z) ∧ Kp W w') := fun vs W kk ⟨ps, cs, e9, ar, ll⟩ => by
        subst e9
        exact HRt.out pv cv ps cs W (k1.trans kk) (hav.grown kk) hcv ar ll
      obtain ⟨LV, hLV⟩ : ∃ LV, LV = (dig (a ^ k)).length := ⟨_, rfl⟩
      rw [← hLV] at HR ⊢
      replace x2 := kkeep k1 x2
      have kk := HW.out.2.2.trans k1
      clear hp ho hav hcv hLV k1 HRt
      go_upto_region 4 with fail
      go_region_held3 (fun w' => w'.cell? ⟨B, 2, none⟩ = some (.int .i64 ea)) ((refine kkeep (W := w1) ?_ x2; ((repeat (first | with_reducible exact kB | with_reducible exact kA | with_reducible exact Kp.refl _ | with_reducible refine Kp.drew ?_)); done))) (first | (go_at_call 144; have hh := o1; refine (HR.out _ _ ?q1 ?q2).mono ?_; (case q1 => ((repeat (first | with_reducible exact kB | with_reducible exact kA | with_reducible exact Kp.refl _ | with_reducible refine Kp.drew ?_)); done)); (case q2 => exact hls); rintro e v2 ⟨rfl, k12⟩; have kB : Kp w1 v2 := Kp.trans ?q3 k12; (case q3 => ((repeat (first | with_reducible exact kB | with_reducible exact kA | with_reducible exact Kp.refl _ | with_reducible refine Kp.drew ?_)); done))) | (go_at_call 133; refine (HS.out _).mono ?_; rintro e v1 ⟨vs, rfl, o1, k01⟩; have kA : Kp w1 v1 := Kp.trans ?q4 k01; (case q4 => ((repeat (first | with_reducible exact kB | with_reducible exact kA | with_reducible exact Kp.refl _ | with_reducible refine Kp.drew ?_)); done)); have hls := o1.ls; obtain ⟨ps, cs, rfl, as_, ls_⟩ := o1.arr))
      have k02 := kk.trans kB
      clear kk kB kA k01 k12 HR HS o1 hls as_ ls_
      go_wp2
      exact bodyPost_ret (v := .float .f64 Z) (by simp [results, Tryz.results115, go_sem]) rfl ⟨rfl, k02⟩
  · rw [if_neg c]
    have eN : N = (k : Int) := by omega
    subst eN
    have q3 : ((k : Int) % 2 != 0) = ob := by rw [← Int.tmod_eq_emod_of_nonneg (by omega)]; exact q1
    clear hN HRt HS
    obtain ⟨st, hst⟩ : ∃ st, st = (s && ob) := ⟨_, rfl⟩
    rw [← hst] at HO ⊢
    obtain ⟨Z, hZ⟩ : ∃ Z, Z = ofW d st (a ^ k) (ea * (k : Int)) := ⟨_, rfl⟩
    rw [← hZ] at HO ⊢
    clear hZ
    cases s
    · rw [show (false && ob) = false from rfl] at hst
      subst hst
      clear q1 q2 q3
      go_enter Tryz.func115, Tryz.ntmps115
      go_wp2_with fail
      rw [← HW.out.2.1]
      try rw [← HW.out.1]
      try go_wp2_with fail
      refine hp.mono ?_; rintro e w1 ⟨v, rfl, ho, k1⟩
      obtain ⟨pv, cv, rfl, hav, hcv⟩ := ho.arr
      have hr := HO.out pv cv w1 k1 hav hcv
      obtain ⟨LV, hLV⟩ : ∃ LV, LV = (dig (a ^ k)).length := ⟨_, rfl⟩
      rw [← hLV] at hr ⊢
      replace x2 := kkeep k1 x2
      have kk := HW.out.2.2.trans k1
      clear hp ho hav hcv hLV k1 HO
      go_wp2_with fail
      refine hr.mono ?_; rintro e w2 ⟨rfl, k2⟩
      have k02 := kk.trans k2
      clear hr kk k2
      go_wp2
      exact bodyPost_ret (v := .float .f64 Z) (by simp [results, Tryz.results115, go_sem]) rfl ⟨rfl, k02⟩
    · rw [show (true && ob) = ob from rfl] at hst
      subst hst
      go_enter Tryz.func115, Tryz.ntmps115
      go_wp2_with fail
      rw [← HW.out.2.1]
      try rw [← HW.out.1]
      try go_wp2_with fail
      refine hp.mono ?_; rintro e w1 ⟨v, rfl, ho, k1⟩
      obtain ⟨pv, cv, rfl, hav, hcv⟩ := ho.arr
      have hr := HO.out pv cv w1 k1 hav hcv
      obtain ⟨LV, hLV⟩ : ∃ LV, LV = (dig (a ^ k)).length := ⟨_, rfl⟩
      rw [← hLV] at hr ⊢
      replace x2 := kkeep k1 x2
      have kk := HW.out.2.2.trans k1
      clear hp ho hav hcv hLV k1 HO
      go_wp2_with fail
      refine hr.mono ?_; rintro e w2 ⟨rfl, k2⟩
      have k02 := kk.trans k2
      clear hr kk k2
      go_wp2
      exact bodyPost_ret (v := .float .f64 Z) (by simp [results, Tryz.results115, go_sem]) rfl ⟨rfl, k02⟩
set_option maxRecDepth 20000 in
set_option maxHeartbeats 400000 in
theorem powInf_ (n : Bool) (N : Int) (k : Nat) (hN : N = (k : Int) ∨ N = -(k : Int)) (w : World) : Calls Tryz.prog 113 #[.float .f64 (Fq.wD n 9218868437227405312), .int .i64 N] w fun e w' => e = .returned (.float .f64 (if N < 0 then 0 else Fq.wD (n && decide (k % 2 = 1)) 9218868437227405312)) ∧ w' = w := by
  have ha := abs_ n 9218868437227405312 (by decide) w
  obtain ⟨q1, q2⟩ := odd_i N k hN
  obtain ⟨X, hX⟩ : ∃ X, X = Fq.wD n 9218868437227405312 := ⟨_, rfl⟩
  by_cases c : N < 0
  · rw [if_pos c, ← hX]
    clear ha q1 q2 hX hN
    go_enter Tryz.func113, Tryz.ntmps113
    go_wp2
    exact bodyPost_ret (v := .float .f64 0) (by simp [results, Tryz.results113, go_sem]) rfl ⟨rfl, rfl⟩
  · rw [if_neg c]
    have eN : N = (k : Int) := by omega
    subst eN
    have q3 : ((k : Int) % 2 == 0) = !decide (k % 2 = 1) := by rw [← Int.tmod_eq_emod_of_nonneg (by omega)]; exact q2
    by_cases c2 : k % 2 = 1
    · rw [decide_eq_true c2, Bool.and_true, ← hX]
      rw [decide_eq_true c2] at q2 q3
      simp only [Bool.not_true] at q2 q3
      clear ha q1 hX hN c2
      go_enter Tryz.func113, Tryz.ntmps113
      go_wp2
      exact bodyPost_ret (v := .float .f64 X) (by simp [results, Tryz.results113, go_sem]) rfl ⟨rfl, rfl⟩
    · rw [decide_eq_false c2, Bool.and_false, show Fq.wD false 9218868437227405312 = 9218868437227405312 from rfl]
      rw [decide_eq_false c2] at q2 q3
      simp only [Bool.not_false] at q2 q3
      rw [← hX] at ha ⊢
      clear q1 hX hN c2
      go_enter Tryz.func113, Tryz.ntmps113
      go_wp2_with fail
      refine ha.mono ?_; rintro e w' ⟨rfl, hw'⟩; obtain rfl := hw'.symm; clear hw' ha
      go_wp2
      exact bodyPost_ret (v := .float .f64 9218868437227405312) (by simp [results, Tryz.results113, go_sem]) rfl ⟨rfl, rfl⟩
end Go.Proofs.YthdnajcgdngmcaaGreatDoor
