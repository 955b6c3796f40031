import Derived.Test.YtnjlcfpkhgmjeaaGreatDoorKTOu
import Derived.Test.YtnjlcfpkhgmjeaaGreatDoorKTQd
namespace Go.Proofs.YtnjlcfpkhgmjeaaGreatDoor
open Go.RowKit

def Db (w : World) (b : Nat) (V : Int) (i : Nat) : Prop := ∃ ws t s, Rep ws (V * ((2 ^ i : Nat) : Int)) ∧ Sb w b ws t s ∧ (i ≤ 62 → t = 2 ^ i ∧ s = 0) ∧ (62 < i → s = 2)
theorem Db.kp {w w' : World} {b : Nat} {V : Int} {i : Nat} (h : Db w b V i) (g : Kp w w') : Db w' b V i := by
  obtain ⟨ws, t, s, h1, h2, h3, h4⟩ := h
  exact ⟨ws, t, s, h1, ⟨h2.1, h2.2.kp g⟩, h3, h4⟩
theorem mergeD_ (b : Nat) (V : Int) (i : Nat) (w : World) (h : Db w b V i) : Calls Tryz.prog 16 #[.pointer (some ⟨b, 0, none⟩), .pointer (some ⟨b, 0, none⟩)] w fun e w' => (∃ v, e = .returned v) ∧ Db w' b V (i + 1) ∧ Kb b w w' := by
  obtain ⟨ws, t, s, h1, h2, h3, h4⟩ := h
  refine (merge_ b b ws ws _ _ h1 h1 t t s s w h2 h2).mono ?_
  rintro e w' ⟨z, hv, hS, hR, kb⟩
  refine ⟨hv, ⟨z, _, _, ?_, hS, ?_, ?_⟩, kb⟩
  · have e : V * ((2 ^ (i + 1) : Nat) : Int) = V * ((2 ^ i : Nat) : Int) + V * ((2 ^ i : Nat) : Int) := by
      rw [Nat.pow_succ, Int.natCast_mul, ← Int.mul_assoc]; omega
    rw [e]; exact hR
  · intro hi
    obtain ⟨rfl, rfl⟩ := h3 (by omega)
    have e : 2 ^ i + 2 ^ i = 2 ^ (i + 1) := by rw [Nat.pow_succ]; omega
    have hle : 2 ^ (i + 1) ≤ 2 ^ 62 := Nat.pow_le_pow_right (by decide) hi
    rw [show (2 : Nat) ^ 62 = 4611686018427387904 from by decide] at hle
    rw [e, Nat.mod_eq_of_lt (by omega)]
    refine ⟨rfl, ?_⟩
    unfold grS jn
    rw [if_neg (by omega)]; rfl
  · intro hi
    by_cases c : i ≤ 62
    · obtain ⟨rfl, rfl⟩ := h3 c
      have : i = 62 := by omega
      subst this
      decide
    · rw [h4 (by omega)]
      unfold grS jn
      by_cases c2 : 4611686018427387904 < (t + t) % 18446744073709551616
      · rw [if_pos c2]
      · rw [if_neg c2]; rfl
theorem Db.fs {w : World} {b : Nat} {V : Int} {i K : Nat} (h : Db w b V i) (hi : i ≤ 62) (hV : V.natAbs ≤ tb K) : Fs w b (V * ((2 ^ i : Nat) : Int)) (2 ^ i) K := by
  obtain ⟨ws, t, s, h1, h2, h3, h4⟩ := h
  obtain ⟨rfl, rfl⟩ := h3 hi
  have hle : 2 ^ i ≤ 2 ^ 62 := Nat.pow_le_pow_right (by decide) hi
  rw [show (2 : Nat) ^ 62 = 4611686018427387904 from by decide] at hle
  refine ⟨ws, h1, h2, hle, ?_⟩
  rw [Int.natAbs_mul, Int.natAbs_natCast, Nat.mul_comm]
  exact Nat.mul_le_mul (Nat.le_refl _) hV
theorem Db.none {w : World} {b : Nat} {V : Int} {i : Nat} (h : Db w b V i) (hi : 62 < i) : ∃ ws t, Sb w b ws t 2 := by
  obtain ⟨ws, t, s, h1, h2, h3, h4⟩ := h
  rw [h4 hi] at h2
  exact ⟨ws, t, h2⟩
theorem of_dv (d : Int) (a j k K : Nat) (hK : K = 1074) (I1 : Int) (hI : I1.natAbs < 2 ^ (K + 1024)) (hk : k ≤ 62) (ng : Bool) (hs : I1 ≠ 0 → ng = decide (I1 < 0)) (h : Dv a j K I1.natAbs) : ofW d ng (a * 2 ^ k) (-(j : Int)) = fmaW d (I1 * ((2 ^ K : Nat) : Int) * ((2 ^ k : Nat) : Int)) := by
  obtain ⟨h1, h2, h3⟩ := h
  have ha : a < 2 ^ (K + 1024) := by
    have : a * 1 ≤ a * 2 ^ (K - j) := Nat.mul_le_mul (Nat.le_refl _) (Nat.one_le_two_pow)
    omega
  refine of_fma d ng _ _ _ (by omega) (by omega) ?_ ?_
  · have hb : blen (a * 2 ^ k) ≤ K + 1024 + k := by
      rw [blen_le_iff, Nat.pow_add]
      exact Nat.mul_lt_mul_of_pos_right ha (Nat.two_pow_pos _)
    omega
  · have e : (-(j : Int) + 2148).toNat = (K - j) + K := by omega
    rw [e]
    have e2 : a * 2 ^ k * 2 ^ ((K - j) + K) = I1.natAbs * 2 ^ K * 2 ^ k := by
      rw [← h3, Nat.pow_add]; simp only [Nat.mul_assoc, Nat.mul_comm, Nat.mul_left_comm]
    rw [e2]
    by_cases z : I1 = 0
    · subst z; cases ng <;> simp
    · have hn := hs z
      by_cases c : I1 < 0
      · rw [hn, decide_eq_true c]
        simp only [if_true]
        have : I1 = -((I1.natAbs : Nat) : Int) := by omega
        rw [Int.natCast_mul, Int.natCast_mul, this]
        simp only [Int.natAbs_neg, Int.natAbs_natCast, Int.neg_mul]
      · rw [hn, decide_eq_false c]
        simp only [Bool.false_eq_true, if_false]
        have : I1 = ((I1.natAbs : Nat) : Int) := by omega
        rw [Int.natCast_mul, Int.natCast_mul]
        rw [← this]
theorem blen_two (j : Nat) : blen (2 ^ j) = j + 1 := blen_uniq _ j (Nat.le_refl _) (by rw [Nat.pow_succ]; have := Nat.two_pow_pos j; omega)
theorem Ls.kp4 {w w' : World} {v : Value} {L : List Int} (h : Ls w v L) (g : Kp w w') : Ls w' v L := by
  obtain ⟨p, c, h1, h2, h3⟩ := h
  exact ⟨p, c, h1, h2.grown g, h3⟩
set_option linter.unusedVariables false
set_option maxRecDepth 20000 in
set_option maxHeartbeats 4000000 in
theorem tdoublesA_ (d : Int) (hd1 : -9223372036854775808 ≤ d) (hd2 : d < 9223372036854775808) (K : Nat) (hK : K = 1074) (x : Nat) (hx : x < 18446744073709551616) (z : Int) (hz : z < 0) (w : World) (hT : Tab w) (hQ : Fq.Tab w) : Calls Tryz.prog 4 #[.int .i64 d, .int .u64 (x : Int), .int .i64 z] w fun e w' => e = .returned (.bool true) ∧ Kp w w' := by
  have hfin := nmP_fin x
  have hnl := nmP_lt x hx
  have hnx := number4_ x hx
  obtain ⟨n0, m0, hm0, hn0⟩ := Fq.exD (nmP x) hnl
  rw [hn0, (wD_parts n0 m0 hm0).1] at hfin
  clear hm0 hnl
  have hm0 := hfin
  rw [hn0] at hnx
  clear hn0
  have hflx := fl4_ (Fq.wD n0 m0)
  have hadx := fun (b : Nat) (W : World) (h : Fs W b 0 0 K) => fadd_ n0 m0 hm0 K hK b 0 0 (by decide) W h
  have hlv := lives_ w hT hQ
  have j8 : z < 0 := hz
  have HN : Hid (K = 1074 ∧ Tab w ∧ Fq.Tab w ∧ m0 < 9218868437227405312) := ⟨hK, hT, hQ, hm0⟩
  have HKK : Hid (62 ≤ 70) := by show 62 ≤ 70; omega
  clear hK hT hQ hm0 hx hfin
  go_enter Tryz.func4, Tryz.ntmps4
  go_wp2_with fail
  refine hlv.mono ?_
  rintro e wa ⟨rfl, ga⟩
  go_wp2_with fail
  refine (hnx _).mono ?_; rintro e w' ⟨rfl, hw'⟩; obtain rfl := hw'.symm; clear hw'
  go_wp2_with fail
  refine (fnew_ K _).mono ?_
  rintro e wb ⟨rfl, F0, gb⟩
  have hk : Kp w wb := ga.trans gb
  have hz9 : w.heap.size ≤ wa.heap.size := ga.size
  clear ga gb hlv
  generalize wa.heap.size = bs at *
  go_wp2_with fail
  refine (hflx _).mono ?_; rintro e w' ⟨rfl, hw'⟩; obtain rfl := hw'.symm; clear hw'
  go_wp2_with fail
  refine (hadx bs _ F0).mono ?_
  rintro e wc_ ⟨⟨vc, rfl⟩, F1, kb⟩
  have hk2 := kb.kp hk hz9
  have HS : Hid (Db wc_ bs (tV n0 m0 K) 0 ∧ Kp w wc_) := by
    obtain ⟨ws, r1, r2, -, -⟩ := F1
    rw [Int.zero_add] at r1
    exact ⟨⟨ws, 0 + 1, 0, by simpa using r1, r2, fun _ => ⟨rfl, rfl⟩, fun h => by omega⟩, hk2⟩
  have HZ : Hid (w.heap.size ≤ bs) := hz9
  clear kb hk F0 hadx hflx F1 hk2 hz9 hnx
  go_wp2_with fail
  go_loopw [8] (fun ii wr => ∃ i : Nat, ii = .int .i64 (i : Int) ∧ i ≤ 62 ∧ Db wr bs (tV n0 m0 K) i ∧ Kp w wr) (fun i _ => 62 - (intOf i).toNat)
  case atStart => exact ⟨0, rfl, Nat.zero_le _, HS.out.1, HS.out.2⟩
  case round =>
    obtain ⟨i, rfl, hi, hD, hk⟩ := hrel
    clear HS
    by_cases ci : i < 62
    · have hmg := mergeD_ bs (tV n0 m0 K) i wr hD
      have j1 : (i : Int) < 62 := by omega
      have j2 : i + 1 ≤ 62 := by omega
      have j3 : 62 - (i + 1) < 62 - i := by omega
      have j4 : i < 70 := by have := HKK.out; omega
      have HK : Hid (Kp w wr) := hk
      clear hD hk hi ci
      go_wp2_with (first | (go_at_call 16; refine hmg.mono ?_; rintro e w1 ⟨⟨v1, rfl⟩, hD1, kb1⟩))
      exact ⟨⟨i + 1, by go_num, j2, hD1, kb1.kp HK.out HZ.out⟩, (show 62 - (i + 1) < 62 - i from j3)⟩
    · have hik : i = 62 := by omega
      have t1 : ¬ ((i : Int) < 62) := by omega
      rw [hik] at hD
      clear hi ci hik
      obtain ⟨hK, hT, hQ, hm0⟩ := HN.out
      have hfb := dyfrom_ n0 m0 K hK hm0 wr
      have hFs := hD.fs (K := K) (by omega) (tV_le n0 m0 K hK hm0)
      have HE : Hid (Fs wr bs (tV n0 m0 K * ((2 ^ 62 : Nat) : Int)) (2 ^ 62) K ∧ Kp w wr) := ⟨hFs, hk⟩
      clear hD hFs hk hK hT hQ hm0
      go_wp2_with fail
      refine hfb.mono ?_
      rintro e W1 ⟨s3, p3, l3, c3, q3, k3_, d3, rfl, hDy, g1⟩
      obtain ⟨hFs, hk⟩ := HE.out
      obtain ⟨hK, hT, hQ, hm0⟩ := HN.out
      replace hFs := hFs.kp g1
      replace hk := hk.trans g1
      clear HE g1
      obtain ⟨a, j, o1, o2, hDv, hsn⟩ := hDy
      have hIl := iv_lt n0 m0 K hK hm0
      have hal : a < 2 ^ (K + 1024) := by
        obtain ⟨e1, e2, e3⟩ := id hDv
        have : a * 1 ≤ a * 2 ^ (K - j) := Nat.mul_le_mul (Nat.le_refl _) (Nat.one_le_two_pow)
        omega
      have hjl : j ≤ K := hDv.1
      have hofv := of_dv d a j 62 K hK (Iv n0 m0) hIl (by omega) s3 hsn hDv
      have hwa : Kp w (W1.alloc (.cells #[.bool s3, .slice p3 l3 c3, .slice q3 k3_ d3] 45)) := hk.alloc _
      have kd0 : Kp W1 (W1.alloc (.cells #[.bool s3, .slice p3 l3 c3, .slice q3 k3_ d3] 45)) := (Kp.refl W1).alloc _
      have c0 : (W1.alloc (.cells #[.bool s3, .slice p3 l3 c3, .slice q3 k3_ d3] 45)).cell? ⟨W1.heap.size, 0, none⟩ = some (.bool s3) := by simp [go_sem]
      have c1 : (W1.alloc (.cells #[.bool s3, .slice p3 l3 c3, .slice q3 k3_ d3] 45)).cell? ⟨W1.heap.size, 1, none⟩ = some (.slice p3 l3 c3) := by simp [go_sem]
      have c2 : (W1.alloc (.cells #[.bool s3, .slice p3 l3 c3, .slice q3 k3_ d3] 45)).cell? ⟨W1.heap.size, 2, none⟩ = some (.slice q3 k3_ d3) := by simp [go_sem]
      have hla : Ls W1 (.slice p3 l3 c3) (dig a) := o1.arr
      have hlb : Ls W1 (.slice q3 k3_ d3) (dig (2 ^ j)) := o2.arr
      go_upto_region 15 with fail
      generalize hWq : W1.alloc (.cells #[.bool s3, .slice p3 l3 c3, .slice q3 k3_ d3] 45) = Wq at *
      clear hWq
      generalize W1.heap.size = bq at *
      have hFq := hFs.kp kd0
      have hla := Ls.kp4 hla kd0
      have hlb := Ls.kp4 hlb kd0
      have hst := fun (W : World) (g : Kp Wq.drew W) => fstate_ K bs _ _ W (hFq.kp ((Kp.refl Wq).drew.trans g))
      have hrd := fun (W : World) (g : Kp Wq.drew W) => fround_ d hd1 hd2 K hK bs _ _ W (hFq.kp ((Kp.refl Wq).drew.trans g)) (hT.grown (hwa.drew.trans g)) (Fq.Tab.grown hQ (hwa.drew.trans g))
      have hb := fun W => bits4_ _ (ordfma4 d (tV n0 m0 K * ((2 ^ 62 : Nat) : Int))) W
      have hle := fun (W : World) (g : Kp Wq.drew W) => leftO (.slice p3 l3 c3) a 62 W (Ls.kp4 hla ((Kp.refl Wq).drew.trans g)) (by have : blen a ≤ K + 1024 := (blen_le_iff _ _).2 hal; omega) (by omega)
      have hln := fun (W : World) (g : Kp Wq.drew W) => lenR (.slice q3 k3_ d3) (2 ^ j) W (Ls.kp4 hlb ((Kp.refl Wq).drew.trans g)) (by rw [blen_two]; omega)
      have hlen : (dig (a * 2 ^ 62)).length ≤ 1048576 := by
        refine Nat.le_trans (dlen (a * 2 ^ 62) 16384 ?_) (by decide)
        have h4 : blen (a * 2 ^ 62) ≤ K + 1024 + 62 := by
          rw [blen_le_iff, Nat.pow_add]
          exact Nat.mul_lt_mul_of_pos_right hal (Nat.two_pow_pos _)
        omega
      have hof := fun (W : World) (pl : Option Addr) (cl : Nat) (g : Kp Wq.drew W) (hA : Arr W pl (dig (a * 2 ^ 62))) (hc : (dig (a * 2 ^ 62)).length ≤ cl) => pof_ d s3 pl cl (dig (a * 2 ^ 62)) (-(j : Int)) W (hT.grown (hwa.drew.trans g)) (Fq.Tab.grown hQ (hwa.drew.trans g)) hd1 hd2 hA (Wd_dig _) hlen hc
      rw [val_dig, hofv] at hof
      have hVeq : Iv n0 m0 * ((2 ^ K : Nat) : Int) * ((2 ^ 62 : Nat) : Int) = tV n0 m0 K * ((2 ^ 62 : Nat) : Int) := rfl
      rw [hVeq] at hof
      rw [blen_two] at hln
      have hlv2 := fun (W : World) (g : Kp Wq.drew W) => lives_ W (hT.grown (hwa.drew.trans g)) (Fq.Tab.grown hQ (hwa.drew.trans g))
      have kd : Kp Wq.drew Wq.drew := Kp.refl _
      have hwd : Kp w Wq.drew := hwa.drew
      have c0 : Wq.drew.cell? ⟨bq, 0, none⟩ = some (.bool s3) := c0
      have c1 : Wq.drew.cell? ⟨bq, 1, none⟩ = some (.slice p3 l3 c3) := c1
      have c2 : Wq.drew.cell? ⟨bq, 2, none⟩ = some (.slice q3 k3_ d3) := c2
      have hwj : IntKind.i64.wrap (1 - ((j + 1 : Nat) : Int)) = -(j : Int) := by rw [IntKind.wrap_i64]; omega
      generalize fmaW d (tV n0 m0 K * ((2 ^ 62 : Nat) : Int)) = RR at *
      generalize ((j + 1 : Nat) : Int) = J1 at *
      have HW : Hid (Kp w Wq.drew) := hwd
      clear hFs hk hK hT hQ hm0 o1 o2 hDv hsn hIl hal hjl hofv hwa hla hlb hFq hlen hVeq hwd kd0 HN
      go_region_held3 (fun w' => w'.cell? ⟨bq, 0, none⟩ = some (.bool s3) ∧ w'.cell? ⟨bq, 1, none⟩ = some (.slice p3 l3 c3) ∧ w'.cell? ⟨bq, 2, none⟩ = some (.slice q3 k3_ d3)) (first | (with_reducible exact ⟨c0, c1, c2⟩) | (exact ⟨kkeep k2 c0, kkeep k2 c1, kkeep k2 c2⟩) | (exact ⟨kkeep k3 c0, kkeep k3 c1, kkeep k3 c2⟩) | (exact ⟨kkeep k4 c0, kkeep k4 c1, kkeep k4 c2⟩) | (exact ⟨kkeep k5 c0, kkeep k5 c1, kkeep k5 c2⟩)) (first | (go_at_call 17; refine (hst _ ?q9).mono ?_; (case q9 => (first | exact kd | exact k2 | exact k3 | exact k4 | exact k5)); rintro e w' ⟨rfl, hw'⟩; obtain rfl := hw'.symm; clear hw') | (go_at_call 18; refine (hrd _ ?q9).mono ?_; (case q9 => (first | exact kd | exact k2 | exact k3 | exact k4 | exact k5)); rintro e w2 ⟨rfl, g2⟩; have k2 := kd.trans g2) | (go_at_call 8; refine (hb _).mono ?_; rintro e w' ⟨rfl, hw'⟩; obtain rfl := hw'.symm; clear hw') | (go_at_call 22; refine (hle _ ?q9).mono ?_; (case q9 => (first | exact kd | exact k2 | exact k3 | exact k4 | exact k5)); rintro e w3 ⟨vl, rfl, hO, g3⟩; have k3 := k2.trans g3; obtain ⟨pl, cl, rfl, hAr, hcl⟩ := hO.arr) | (go_at_call 23; refine (hln _ ?q9).mono ?_; (case q9 => (first | exact kd | exact k2 | exact k3 | exact k4 | exact k5)); rintro e w' ⟨rfl, hw'⟩; obtain rfl := hw'.symm; clear hw') | (go_at_call 21; refine (hof _ _ _ ?q9 hAr hcl).mono ?_; (case q9 => (first | exact kd | exact k2 | exact k3 | exact k4 | exact k5)); rintro e w4 ⟨rfl, g4⟩; have k4 := k3.trans g4) | (go_at_call 13; refine (hlv2 _ ?q9).mono ?_; (case q9 => (first | exact kd | exact k2 | exact k3 | exact k4 | exact k5)); rintro e w5 ⟨rfl, g5⟩; have k5 := k4.trans g5))
      all_goals (
        go_wp2
        exact bodyPost_ret (v := .bool true) (by simp [results, Tryz.results4, go_sem]) rfl ⟨rfl, HW.out.trans k5⟩)
end Go.Proofs.YtnjlcfpkhgmjeaaGreatDoor
