import Derived.Test.YtbbmoaiilnfmgaaKWLa
namespace Go.Proofs.Ytbbmoaiilnfmgaa
open Go.RowKit
set_option linter.unusedVariables false
set_option maxRecDepth 20000 in
set_option maxHeartbeats 1000000 in
theorem finX_ (z : Int) (hI : ∀ w : World, Calls Try.prog 43 #[.int .i64 z] w fun e w' => ∃ (s3 : Bool) (p3 : Option Addr) (l3 c3 : Nat) (q3 : Option Addr) (k3 d3 : Nat), e = .returned (.agg #[.bool s3, .slice p3 l3 c3, .slice q3 k3 d3]) ∧ XP w.heap.size w' s3 p3 l3 c3 q3 k3 d3 z 1 1500 ∧ Kp w w') (w : World) : Calls Try.prog 28 #[.int .i64 z] w fun e w' => ∃ (s3 : Bool) (p3 : Option Addr) (l3 c3 : Nat) (q3 : Option Addr) (k3 d3 : Nat), e = .returned (.agg #[.int .i64 0, .bool s3, .slice p3 l3 c3, .slice q3 k3 d3]) ∧ XP w.heap.size w' s3 p3 l3 c3 q3 k3 d3 z 1 1500 ∧ Kp w w' := by
  go_enter Try.func28, Try.ntmps28
  go_wp2_with (first | (go_at_call 43; refine (hI _).mono ?_; rintro e w1 ⟨s3, p3, l3, c3, q3, k3, d3, rfl, hp, g1⟩; have r0 := kkeep g1 (b := w.heap.size) (o := 0) (v := .int .i64 0) (by simp [go_sem]); have rz0 : w1.frozen? ⟨w.heap.size, 0, none⟩ = false := (kfro g1 (by simp <;> omega)).trans (by simp [go_sem]); have r1 := kkeep g1 (b := w.heap.size) (o := 1) (v := .bool false) (by simp [go_sem]); have rz1 : w1.frozen? ⟨w.heap.size, 1, none⟩ = false := (kfro g1 (by simp <;> omega)).trans (by simp [go_sem]); have r2 := kkeep g1 (b := w.heap.size) (o := 2) (v := .slice none 0 0) (by simp [go_sem]); have rz2 : w1.frozen? ⟨w.heap.size, 2, none⟩ = false := (kfro g1 (by simp <;> omega)).trans (by simp [go_sem]); have r3 := kkeep g1 (b := w.heap.size) (o := 3) (v := .slice none 0 0) (by simp [go_sem]); have rz3 : w1.frozen? ⟨w.heap.size, 3, none⟩ = false := (kfro g1 (by simp <;> omega)).trans (by simp [go_sem])))
  exact bodyPost_ret (v := .agg #[.int .i64 0, .bool s3, .slice p3 l3 c3, .slice q3 k3 d3]) (by simp [results, Try.results28, go_sem, r0, r1, r2, r3]) rfl ⟨s3, p3, l3, c3, q3, k3, d3, rfl, XP.mono (((((hp).set (x := ⟨w.heap.size, 0, none⟩) (by simp) (.int .i64 0)).set (x := ⟨w.heap.size, 1, none⟩) (by simp) (.bool s3)).set (x := ⟨w.heap.size, 2, none⟩) (by simp) (.slice p3 l3 c3)).set (x := ⟨w.heap.size, 3, none⟩) (by simp) (.slice q3 k3 d3)) (by simp <;> omega), (((((Kp.trans ((Kp.refl w).alloc _) g1)).setCell (by simp <;> omega) _).setCell (by simp <;> omega) _).setCell (by simp <;> omega) _).setCell (by simp <;> omega) _⟩
set_option maxRecDepth 20000 in
set_option maxHeartbeats 1000000 in
theorem spF_ (K V : Int) (C N : Nat) (s : Bool) (p : Option Addr) (l c : Nat) (q : Option Addr) (k d : Nat) (w : World) (hs : ∀ W : World, Kp w W → Calls Try.prog 32 #[.int .i64 K, .agg #[.bool s, .slice p l c, .slice q k d]] W fun e w' => ∃ (s3 : Bool) (p3 : Option Addr) (l3 c3 : Nat) (q3 : Option Addr) (k3 d3 : Nat), e = .returned (.agg #[.bool s3, .slice p3 l3 c3, .slice q3 k3 d3]) ∧ XP W.heap.size w' s3 p3 l3 c3 q3 k3 d3 V C N ∧ Kp W w') : Calls Try.prog 19 #[.int .i64 K, .agg #[.int .i64 0, .bool s, .slice p l c, .slice q k d]] w fun e w' => ∃ (s3 : Bool) (p3 : Option Addr) (l3 c3 : Nat) (q3 : Option Addr) (k3 d3 : Nat), e = .returned (.agg #[.int .i64 0, .bool s3, .slice p3 l3 c3, .slice q3 k3 d3]) ∧ XP w.heap.size w' s3 p3 l3 c3 q3 k3 d3 V C N ∧ Kp w w' := by
  go_enter Try.func19, Try.ntmps19
  go_wp2_with (first | (go_at_call 32; refine (hs _ ?q0).mono ?_; (case q0 => exact ((Kp.refl w).alloc _).alloc _); rintro e w1 ⟨s3, p3, l3, c3, q3, k3, d3, rfl, hp, g1⟩; have r0 := kkeep g1 (b := w.heap.size + 1) (o := 0) (v := .int .i64 0) (by simp [go_sem]); have rz0 : w1.frozen? ⟨w.heap.size + 1, 0, none⟩ = false := (kfro g1 (by simp <;> omega)).trans (by simp [go_sem]); have r1 := kkeep g1 (b := w.heap.size + 1) (o := 1) (v := .bool false) (by simp [go_sem]); have rz1 : w1.frozen? ⟨w.heap.size + 1, 1, none⟩ = false := (kfro g1 (by simp <;> omega)).trans (by simp [go_sem]); have r2 := kkeep g1 (b := w.heap.size + 1) (o := 2) (v := .slice none 0 0) (by simp [go_sem]); have rz2 : w1.frozen? ⟨w.heap.size + 1, 2, none⟩ = false := (kfro g1 (by simp <;> omega)).trans (by simp [go_sem]); have r3 := kkeep g1 (b := w.heap.size + 1) (o := 3) (v := .slice none 0 0) (by simp [go_sem]); have rz3 : w1.frozen? ⟨w.heap.size + 1, 3, none⟩ = false := (kfro g1 (by simp <;> omega)).trans (by simp [go_sem])))
  exact bodyPost_ret (v := .agg #[.int .i64 0, .bool s3, .slice p3 l3 c3, .slice q3 k3 d3]) (by simp [results, Try.results19, go_sem, r0, r1, r2, r3]) rfl ⟨s3, p3, l3, c3, q3, k3, d3, rfl, XP.mono (((((hp).set (x := ⟨w.heap.size + 1, 0, none⟩) (by simp) (.int .i64 0)).set (x := ⟨w.heap.size + 1, 1, none⟩) (by simp) (.bool s3)).set (x := ⟨w.heap.size + 1, 2, none⟩) (by simp) (.slice p3 l3 c3)).set (x := ⟨w.heap.size + 1, 3, none⟩) (by simp) (.slice q3 k3 d3)) (by simp <;> omega), (((((Kp.trans (((Kp.refl w).alloc _).alloc _) g1)).setCell (by simp <;> omega) _).setCell (by simp <;> omega) _).setCell (by simp <;> omega) _).setCell (by simp <;> omega) _⟩
set_option maxRecDepth 20000 in
set_option maxHeartbeats 1000000 in
theorem spI_ (K i : Int) (t1 : (i == 0) = false) (t2 : (K == 0) = false) (s : Bool) (p : Option Addr) (l c : Nat) (q : Option Addr) (k d : Nat) (w : World) : Calls Try.prog 19 #[.int .i64 K, .agg #[.int .i64 i, .bool s, .slice p l c, .slice q k d]] w fun e w' => e = .returned (.agg #[.int .i64 i, .bool s, .slice p l c, .slice q k d]) ∧ Kp w w' := by
  go_enter Try.func19, Try.ntmps19
  go_wp2
  exact bodyPost_ret (v := .agg #[.int .i64 i, .bool s, .slice p l c, .slice q k d]) (by simp [results, Try.results19, go_sem]) rfl ⟨rfl, (by repeat (with_reducible (first | assumption | exact Kp.refl _ | apply Kp.drew | apply Kp.alloc | apply Kp.drewN | (refine Kp.setCell ?_ (by first | omega | (simp <;> omega)) _) | (refine Kp.trans ?_ (by assumption)))))⟩
set_option maxRecDepth 20000 in
set_option maxHeartbeats 1000000 in
theorem spS_ (i : Int) (t1 : (i == 0) = false) (s : Bool) (p : Option Addr) (l c : Nat) (q : Option Addr) (k d : Nat) (hf : ∀ w : World, Calls Try.prog 28 #[.int .i64 i] w fun e w' => ∃ (s3 : Bool) (p3 : Option Addr) (l3 c3 : Nat) (q3 : Option Addr) (k3 d3 : Nat), e = .returned (.agg #[.int .i64 0, .bool s3, .slice p3 l3 c3, .slice q3 k3 d3]) ∧ XP w.heap.size w' s3 p3 l3 c3 q3 k3 d3 i 1 1500 ∧ Kp w w') (w : World) : Calls Try.prog 19 #[.int .i64 0, .agg #[.int .i64 i, .bool s, .slice p l c, .slice q k d]] w fun e w' => ∃ (s3 : Bool) (p3 : Option Addr) (l3 c3 : Nat) (q3 : Option Addr) (k3 d3 : Nat), e = .returned (.agg #[.int .i64 0, .bool s3, .slice p3 l3 c3, .slice q3 k3 d3]) ∧ XP w.heap.size w' s3 p3 l3 c3 q3 k3 d3 i 1 1500 ∧ Kp w w' := by
  have t3 : (i != 0) = true := by simpa [bne] using t1
  go_enter Try.func19, Try.ntmps19
  go_wp2_with (first | (go_at_call 28; refine (hf _).mono ?_; rintro e w1 ⟨s3, p3, l3, c3, q3, k3, d3, rfl, hp, g1⟩; have r0 := kkeep g1 (b := w.heap.size + 1) (o := 0) (v := .int .i64 0) (by simp [go_sem]); have rz0 : w1.frozen? ⟨w.heap.size + 1, 0, none⟩ = false := (kfro g1 (by simp <;> omega)).trans (by simp [go_sem]); have r1 := kkeep g1 (b := w.heap.size + 1) (o := 1) (v := .bool false) (by simp [go_sem]); have rz1 : w1.frozen? ⟨w.heap.size + 1, 1, none⟩ = false := (kfro g1 (by simp <;> omega)).trans (by simp [go_sem]); have r2 := kkeep g1 (b := w.heap.size + 1) (o := 2) (v := .slice none 0 0) (by simp [go_sem]); have rz2 : w1.frozen? ⟨w.heap.size + 1, 2, none⟩ = false := (kfro g1 (by simp <;> omega)).trans (by simp [go_sem]); have r3 := kkeep g1 (b := w.heap.size + 1) (o := 3) (v := .slice none 0 0) (by simp [go_sem]); have rz3 : w1.frozen? ⟨w.heap.size + 1, 3, none⟩ = false := (kfro g1 (by simp <;> omega)).trans (by simp [go_sem])))
  exact bodyPost_ret (v := .agg #[.int .i64 0, .bool s3, .slice p3 l3 c3, .slice q3 k3 d3]) (by simp [results, Try.results19, go_sem, r0, r1, r2, r3]) rfl ⟨s3, p3, l3, c3, q3, k3, d3, rfl, XP.mono (((((hp).set (x := ⟨w.heap.size + 1, 0, none⟩) (by simp) (.int .i64 0)).set (x := ⟨w.heap.size + 1, 1, none⟩) (by simp) (.bool s3)).set (x := ⟨w.heap.size + 1, 2, none⟩) (by simp) (.slice p3 l3 c3)).set (x := ⟨w.heap.size + 1, 3, none⟩) (by simp) (.slice q3 k3 d3)) (by simp <;> omega), (((((Kp.trans (((Kp.refl w).alloc _).alloc _) g1)).setCell (by simp <;> omega) _).setCell (by simp <;> omega) _).setCell (by simp <;> omega) _).setCell (by simp <;> omega) _⟩
set_option linter.unusedVariables false

theorem XP.ez {base : Nat} {w : World} {s : Bool} {p : Option Addr} {l c : Nat} {q : Option Addr} {k d : Nat} {V : Int} {N K : Nat} (hK : K = 1074) (hN : N ≤ 4194304) (z : Int) (hz : -9218868437227405312 < z ∧ z < 9218868437227405312) (e : V = vZ z) (h : XP base w s p l c q k d V (2 ^ K) N) : QP base w s p l c q k d (fun _ => pw z) := by
  obtain ⟨a, b, h1, h2, hx⟩ := h
  have sg := hx.sign
  obtain ⟨f1, f0, f3, f4, f5⟩ := hx
  refine ⟨a, b, h1, h2, f1, by omega, by omega, fun dd => ?_⟩
  have hs : sumW dd V = pw z := by
    rw [e]
    show sumW dd (Iv (decide (z < 0)) z.natAbs) = _
    rw [sumW_exact dd _ _ (by omega)]
    exact pla_pw z (by unfold BdZ; omega)
  show _ = pw z
  rw [← hs]
  refine ratio_sum dd V a b a b K s hK f1 ⟨f1, Iff.rfl, fun d' p' t' _ => by rw [Int.add_zero], by omega, by omega⟩ ?_ s (fun _ => rfl) ?_
  · have k := congrArg Int.natAbs f3
    rw [Int.natAbs_mul, Int.natAbs_mul, Int.natAbs_natCast, Int.natAbs_natCast, show (rvI s a).natAbs = a from by unfold rvI; cases s <;> simp] at k
    exact k
  · intro hV
    unfold sgV at sg
    by_cases c : V < 0
    · rw [if_pos c] at sg
      rw [decide_eq_true c]
      cases s
      · split at sg <;> simp at sg
      · rfl
    · rw [if_neg c, if_neg hV] at sg
      rw [decide_eq_false c]
      cases s
      · rfl
      · split at sg <;> simp at sg
theorem vZ_1 (K : Nat) (hK : K = 1074) : vZ 4607182418800017408 = ((2 ^ K : Nat) : Int) := by
  rw [vZ_pos _ (by omega), show (4607182418800017408 : Int).natAbs = 4607182418800017408 from rfl, vV_one K hK]
theorem vZ_m1 (K : Nat) (hK : K = 1074) : vZ (-4607182418800017408) = -((2 ^ K : Nat) : Int) := by
  unfold vZ Iv
  rw [if_pos (by decide), show (-4607182418800017408 : Int).natAbs = 4607182418800017408 from rfl, vV_one K hK]
def EZ (base : Nat) (z : Int) (W : World) (i : Int) (s : Bool) (p : Option Addr) (l c : Nat) (q : Option Addr) (k d : Nat) : Prop := (i = 0 → QP base W s p l c q k d (fun _ => pw z)) ∧ (i = 0 ∨ (i = 1 ∧ z = 9218868437227405312) ∨ (i = -1 ∧ z = -9218868437227405312))
theorem EZ.kp {base : Nat} {w : World} {s : Bool} {p : Option Addr} {l c : Nat} {q : Option Addr} {k d : Nat} {w' : World} {z i : Int} (h : EZ base z w i s p l c q k d) (g : Kp w w') : EZ base z w' i s p l c q k d := ⟨fun e => (h.1 e).kp g, h.2⟩
theorem stZ_vZ (K : Nat) (hK : K = 1074) (kd : Nat) (z : Int) (hz : -9218868437227405312 < z ∧ z < 9218868437227405312) : stV kd (2 ^ K) (vZ z) = vZ (stZ K kd z) ∧ -9218868437227405312 < stZ K kd z ∧ stZ K kd z < 9218868437227405312 := by
  by_cases c : kd = 0
  · subst c
    have e2 : stZ K 0 z = (if z < 0 then -4607182418800017408 else if z = 0 then 0 else 4607182418800017408) := by unfold stZ; rw [if_pos rfl]
    rw [e2, sgV_st]
    have v0 := vZ_0
    unfold sgV
    by_cases a : z < 0
    · have := vZ_lt7 z 0 a
      rw [if_pos a, if_pos (by omega), vZ_m1 K hK]
      exact ⟨by simp, by omega, by omega⟩
    · rw [if_neg a]
      by_cases b : z = 0
      · rw [if_pos b, b, v0]; exact ⟨by simp, by omega, by omega⟩
      · have := vZ_lt7 0 z (by omega)
        rw [if_neg b, if_neg (by omega), if_neg (by omega), vZ_1 K hK]
        exact ⟨by simp, by omega, by omega⟩
  · have h := stZ_val K hK kd c z hz
    exact ⟨h.1.symm, h.2.1, h.2.2⟩
theorem steppedZ_ (K : Nat) (hK : K = 1074) (kd : Nat) (hk : kd < 6) (z : Int) (hz : BdZ z) (s : Bool) (p : Option Addr) (l c : Nat) (q : Option Addr) (k d : Nat) (B1 : Nat) (w : World) (h : RP B1 w s p l c q k d (fN (decide (z < 0)) z.natAbs) (fM z.natAbs)) : Calls Try.prog 19 #[.int .i64 (kd : Int), .agg #[.int .i64 (infS (decide (z < 0)) z.natAbs), .bool s, .slice p l c, .slice q k d]] w fun e w' => ∃ (i3 : Int) (s3 : Bool) (p3 : Option Addr) (l3 c3 : Nat) (q3 : Option Addr) (k3 d3 : Nat), e = .returned (.agg #[.int .i64 i3, .bool s3, .slice p3 l3 c3, .slice q3 k3 d3]) ∧ EZ 0 (stZ K kd z) w' i3 s3 p3 l3 c3 q3 k3 d3 ∧ Kp w w' := by
  by_cases c0 : z.natAbs = 9218868437227405312
  · have hi : infS (decide (z < 0)) z.natAbs = (if z < 0 then -1 else 1) := by
      unfold infS; rw [if_pos c0]
      by_cases a : z < 0
      · rw [if_pos (decide_eq_true a), if_pos a]
      · rw [if_neg (by simpa using a), if_neg a]
    have h1 : (if z < 0 then (-1 : Int) else 1) = -1 ∧ z = -9218868437227405312 ∨ (if z < 0 then (-1 : Int) else 1) = 1 ∧ z = 9218868437227405312 := by
      by_cases a : z < 0
      · rw [if_pos a]; left; exact ⟨rfl, by omega⟩
      · rw [if_neg a]; right; exact ⟨rfl, by omega⟩
    rw [hi]
    generalize (if z < 0 then (-1 : Int) else 1) = i at h1 ⊢
    have t1 : (i == 0) = false := by rcases h1 with ⟨rfl, -⟩ | ⟨rfl, -⟩ <;> rfl
    by_cases ck : kd = 0
    · subst ck
      refine (spS_ i t1 s p l c q k d (finX_ i (intX_ i (by rcases h1 with ⟨rfl, -⟩ | ⟨rfl, -⟩ <;> simp))) w).mono ?_
      rintro e w' ⟨s3, p3, l3, c3, q3, k3, d3, rfl, hp, g⟩
      refine ⟨0, s3, p3, l3, c3, q3, k3, d3, rfl, ⟨fun _ => ?_, Or.inl rfl⟩, g⟩
      have e2 : stZ K 0 z = i * 4607182418800017408 := by
        unfold stZ; rw [if_pos rfl]
        rcases h1 with ⟨rfl, rfl⟩ | ⟨rfl, rfl⟩ <;> rfl
      have e3 : vZ (i * 4607182418800017408) = i * ((2 ^ K : Nat) : Int) := by
        rcases h1 with ⟨rfl, -⟩ | ⟨rfl, -⟩
        · rw [show (-1 : Int) * 4607182418800017408 = -4607182418800017408 from rfl, vZ_m1 K hK]; simp
        · rw [show (1 : Int) * 4607182418800017408 = 4607182418800017408 from rfl, vZ_1 K hK]; simp
      rw [e2]
      have hp2 := (hp.as (i * ((2 ^ K : Nat) : Int)) (2 ^ K) 1500 (Nat.pos_iff_ne_zero.1 (Nat.two_pow_pos K)) (by simp) (Nat.le_refl _)).mono (Nat.zero_le _)
      exact hp2.ez hK (by decide) (i * 4607182418800017408) (by rcases h1 with ⟨rfl, -⟩ | ⟨rfl, -⟩ <;> decide) e3.symm
    · refine (spI_ (kd : Int) i t1 (by simpa using ck) s p l c q k d w).mono ?_
      rintro e w' ⟨rfl, g⟩
      refine ⟨i, s, p, l, c, q, k, d, rfl, ⟨fun hi0 => absurd hi0 (by simpa using t1), Or.inr ?_⟩, g⟩
      have e2 := stZ_inf K kd ck z (by omega)
      rw [e2]
      rcases h1 with ⟨a, b⟩ | ⟨a, b⟩
      · exact Or.inr ⟨a, b⟩
      · exact Or.inl ⟨a, b⟩
  · have hzz : -9218868437227405312 < z ∧ z < 9218868437227405312 := by unfold BdZ at hz; omega
    have e1 : infS (decide (z < 0)) z.natAbs = 0 := (infS_zero _ _).2 c0
    have e2 : fN (decide (z < 0)) z.natAbs = decide (z < 0) := by unfold fN; rw [if_neg c0]
    have e3 : fM z.natAbs = z.natAbs := by unfold fM; rw [if_neg c0]
    rw [e1]
    rw [e2, e3] at h
    have hx : XP B1 w s p l c q k d (vZ z) (2 ^ K) 1500 := h.xp K hK
    refine (spF_ (kd : Int) (stV kd (2 ^ K) (vZ z)) (2 ^ K) (5 * 1500 + 4000) s p l c q k d w (fun W g => stXk_ kd hk (vZ z) (2 ^ K) 1500 (by decide) s p l c q k d B1 W (hx.kp g))).mono ?_
    rintro e w' ⟨s3, p3, l3, c3, q3, k3, d3, rfl, hp, g⟩
    have hv := stZ_vZ K hK kd z hzz
    refine ⟨0, s3, p3, l3, c3, q3, k3, d3, rfl, ⟨fun _ => ?_, Or.inl rfl⟩, g⟩
    exact (hp.mono (Nat.zero_le _)).ez hK (by decide) (stZ K kd z) hv.2 hv.1
set_option linter.unusedVariables false
set_option maxRecDepth 20000 in
set_option maxHeartbeats 2000000 in
theorem stepsN_ (K X Y LO HI i j : Int) (P1 P2 : World → Bool → Option Addr → Nat → Nat → Option Addr → Nat → Nat → Prop) (P3 P4 : World → Int → Bool → Option Addr → Nat → Nat → Option Addr → Nat → Nat → Prop) (w : World) (hO : ∀ W : World, Kp w W → Calls Try.prog 16 #[.agg #[.int .u64 X, .int .u64 Y]] W fun e w' => ∃ (s : Bool) (p : Option Addr) (l c : Nat) (q : Option Addr) (k d : Nat) (s2 : Bool) (p2 : Option Addr) (l2 c2 : Nat) (q2 : Option Addr) (k2 d2 : Nat), e = .returned (.agg #[.bool false, .int .i64 i, .bool s, .slice p l c, .slice q k d, .int .i64 j, .bool s2, .slice p2 l2 c2, .slice q2 k2 d2]) ∧ P1 w' s p l c q k d ∧ P2 w' s2 p2 l2 c2 q2 k2 d2 ∧ Kp W w') (hs1 : ∀ (U W : World) (s : Bool) (p : Option Addr) (l c : Nat) (q : Option Addr) (k d : Nat), P1 U s p l c q k d → Kp U W → Calls Try.prog 19 #[.int .i64 K, .agg #[.int .i64 i, .bool s, .slice p l c, .slice q k d]] W fun e w' => ∃ (i3 : Int) (s3 : Bool) (p3 : Option Addr) (l3 c3 : Nat) (q3 : Option Addr) (k3 d3 : Nat), e = .returned (.agg #[.int .i64 i3, .bool s3, .slice p3 l3 c3, .slice q3 k3 d3]) ∧ P3 w' i3 s3 p3 l3 c3 q3 k3 d3 ∧ Kp W w') (hs2 : ∀ (U W : World) (s2 : Bool) (p2 : Option Addr) (l2 c2 : Nat) (q2 : Option Addr) (k2 d2 : Nat), P2 U s2 p2 l2 c2 q2 k2 d2 → Kp U W → Calls Try.prog 19 #[.int .i64 K, .agg #[.int .i64 j, .bool s2, .slice p2 l2 c2, .slice q2 k2 d2]] W fun e w' => ∃ (i4 : Int) (s4 : Bool) (p4 : Option Addr) (l4 c4 : Nat) (q4 : Option Addr) (k4 d4 : Nat), e = .returned (.agg #[.int .i64 i4, .bool s4, .slice p4 l4 c4, .slice q4 k4 d4]) ∧ P4 w' i4 s4 p4 l4 c4 q4 k4 d4 ∧ Kp W w') (hLe : ∀ (U W : World) (i3 i4 : Int) (s3 : Bool) (p3 : Option Addr) (l3 c3 : Nat) (q3 : Option Addr) (k3 d3 : Nat) (s4 : Bool) (p4 : Option Addr) (l4 c4 : Nat) (q4 : Option Addr) (k4 d4 : Nat), P3 U i3 s3 p3 l3 c3 q3 k3 d3 → P4 W i4 s4 p4 l4 c4 q4 k4 d4 → Kp U W → Calls Try.prog 18 #[.agg #[.bool false, .int .i64 i3, .bool s3, .slice p3 l3 c3, .slice q3 k3 d3, .int .i64 i4, .bool s4, .slice p4 l4 c4, .slice q4 k4 d4]] W fun e w' => e = .returned (.agg #[.int .u64 LO, .int .u64 HI]) ∧ Kp W w') : Calls Try.prog 7 #[.int .i64 K, .agg #[.int .u64 X, .int .u64 Y]] w fun e w' => e = .returned (.agg #[.int .u64 LO, .int .u64 HI]) ∧ Kp w w' := by
  go_enter Try.func7, Try.ntmps7
  go_wp2_with (first | (go_at_call 16; refine (hO _ ?q0).mono ?_; (case q0 => exact ((Kp.refl w).alloc _).alloc _); rintro e w1 ⟨s, p, l, c, q, k, d, s2, p2, l2, c2, q2, k2, d2, rfl, h1, h2, g1⟩; have r0 := kkeep g1 (b := w.heap.size + 1) (o := 0) (v := .int .u64 0) (by simp [go_sem]); have rz0 : w1.frozen? ⟨w.heap.size + 1, 0, none⟩ = false := (kfro g1 (by simp <;> omega)).trans (by simp [go_sem]); have r1 := kkeep g1 (b := w.heap.size + 1) (o := 1) (v := .int .u64 0) (by simp [go_sem]); have rz1 : w1.frozen? ⟨w.heap.size + 1, 1, none⟩ = false := (kfro g1 (by simp <;> omega)).trans (by simp [go_sem])))
  have kw : Kp w w1 := Kp.trans (((Kp.refl w).alloc _).alloc _) g1
  have hB1 : w.heap.size + 1 < w1.heap.size := cell_lt r0
  generalize hW : w1.alloc (.cells #[.bool false, .int .i64 i, .bool s, .slice p l c, .slice q k d, .int .i64 j, .bool s2, .slice p2 l2 c2, .slice q2 k2 d2] 42) = W
  have kW : Kp w1 W := by rw [← hW]; exact (Kp.refl w1).alloc _
  have xw1 : W.cell? ⟨w1.heap.size, 1, none⟩ = some (.int .i64 i) := by rw [← hW]; simp [go_sem]
  have xw2 : W.cell? ⟨w1.heap.size, 2, none⟩ = some (.bool s) := by rw [← hW]; simp [go_sem]
  have xw3 : W.cell? ⟨w1.heap.size, 3, none⟩ = some (.slice p l c) := by rw [← hW]; simp [go_sem]
  have xw4 : W.cell? ⟨w1.heap.size, 4, none⟩ = some (.slice q k d) := by rw [← hW]; simp [go_sem]
  have xw5 : W.cell? ⟨w1.heap.size, 5, none⟩ = some (.int .i64 j) := by rw [← hW]; simp [go_sem]
  have xw6 : W.cell? ⟨w1.heap.size, 6, none⟩ = some (.bool s2) := by rw [← hW]; simp [go_sem]
  have xw7 : W.cell? ⟨w1.heap.size, 7, none⟩ = some (.slice p2 l2 c2) := by rw [← hW]; simp [go_sem]
  have xw8 : W.cell? ⟨w1.heap.size, 8, none⟩ = some (.slice q2 k2 d2) := by rw [← hW]; simp [go_sem]
  clear hW
  have hne : w.heap.size + 1 ≠ w1.heap.size := Nat.ne_of_lt hB1
  generalize hby : w1.heap.size = b9 at xw1 xw2 xw3 xw4 xw5 xw6 xw7 xw8 hne ⊢
  have dw1 : W.drew.cell? ⟨b9, 1, none⟩ = some (.int .i64 i) := xw1
  have dw2 : W.drew.cell? ⟨b9, 2, none⟩ = some (.bool s) := xw2
  have dw3 : W.drew.cell? ⟨b9, 3, none⟩ = some (.slice p l c) := xw3
  have dw4 : W.drew.cell? ⟨b9, 4, none⟩ = some (.slice q k d) := xw4
  have dw5 : W.drew.cell? ⟨b9, 5, none⟩ = some (.int .i64 j) := xw5
  have dw6 : W.drew.cell? ⟨b9, 6, none⟩ = some (.bool s2) := xw6
  have dw7 : W.drew.cell? ⟨b9, 7, none⟩ = some (.slice p2 l2 c2) := xw7
  have dw8 : W.drew.cell? ⟨b9, 8, none⟩ = some (.slice q2 k2 d2) := xw8
  replace rz0 := (kfro kW hB1).trans rz0
  replace r0 := kkeep kW r0
  replace rz1 := (kfro kW hB1).trans rz1
  replace r1 := kkeep kW r1
  have hle : w.heap.size ≤ w.heap.size + 1 := Nat.le_succ _
  go_region_held3 (fun w' => w'.cell? ⟨b9, 1, none⟩ = some (.int .i64 i) ∧ w'.cell? ⟨b9, 2, none⟩ = some (.bool s) ∧ w'.cell? ⟨b9, 3, none⟩ = some (.slice p l c) ∧ w'.cell? ⟨b9, 4, none⟩ = some (.slice q k d) ∧ w'.cell? ⟨b9, 5, none⟩ = some (.int .i64 j) ∧ w'.cell? ⟨b9, 6, none⟩ = some (.bool s2) ∧ w'.cell? ⟨b9, 7, none⟩ = some (.slice p2 l2 c2) ∧ w'.cell? ⟨b9, 8, none⟩ = some (.slice q2 k2 d2)) (first | (with_reducible exact ⟨xw1, xw2, xw3, xw4, xw5, xw6, xw7, xw8⟩) | (with_reducible exact ⟨dw1, dw2, dw3, dw4, dw5, dw6, dw7, dw8⟩) | (with_reducible exact ⟨aw1, aw2, aw3, aw4, aw5, aw6, aw7, aw8⟩) | (with_reducible exact ⟨bw1, bw2, bw3, bw4, bw5, bw6, bw7, bw8⟩) | (with_reducible exact ⟨cw1, cw2, cw3, cw4, cw5, cw6, cw7, cw8⟩) | (exact ⟨((World.cell?_setCell_far _ _ _ _ hne).trans ((World.cell?_setCell_far _ _ _ _ hne).trans cw1)), ((World.cell?_setCell_far _ _ _ _ hne).trans ((World.cell?_setCell_far _ _ _ _ hne).trans cw2)), ((World.cell?_setCell_far _ _ _ _ hne).trans ((World.cell?_setCell_far _ _ _ _ hne).trans cw3)), ((World.cell?_setCell_far _ _ _ _ hne).trans ((World.cell?_setCell_far _ _ _ _ hne).trans cw4)), ((World.cell?_setCell_far _ _ _ _ hne).trans ((World.cell?_setCell_far _ _ _ _ hne).trans cw5)), ((World.cell?_setCell_far _ _ _ _ hne).trans ((World.cell?_setCell_far _ _ _ _ hne).trans cw6)), ((World.cell?_setCell_far _ _ _ _ hne).trans ((World.cell?_setCell_far _ _ _ _ hne).trans cw7)), ((World.cell?_setCell_far _ _ _ _ hne).trans ((World.cell?_setCell_far _ _ _ _ hne).trans cw8))⟩)) (first | (go_at_call_of 19 (Value.slice p l c); refine (hs1 w1 _ s p l c q k d h1 ?q0).mono ?_; (case q0 => exact kW.drew); rintro e wl ⟨i3, s3, p3, l3, c3, q3, k3, d3, rfl, h3, gl⟩; have kl : Kp W wl := Kp.trans (Kp.drew (Kp.refl _)) gl; have aw1 := kkeep kl xw1; have aw2 := kkeep kl xw2; have aw3 := kkeep kl xw3; have aw4 := kkeep kl xw4; have aw5 := kkeep kl xw5; have aw6 := kkeep kl xw6; have aw7 := kkeep kl xw7; have aw8 := kkeep kl xw8) | (go_at_call_of 19 (Value.slice p2 l2 c2); refine (hs2 w1 _ s2 p2 l2 c2 q2 k2 d2 h2 ?q0).mono ?_; (case q0 => exact kW.trans kl); rintro e wh ⟨i4, s4, p4, l4, c4, q4, k4, d4, rfl, h4, gh⟩; have kh : Kp W wh := Kp.trans kl gh; have bw1 := kkeep kh xw1; have bw2 := kkeep kh xw2; have bw3 := kkeep kh xw3; have bw4 := kkeep kh xw4; have bw5 := kkeep kh xw5; have bw6 := kkeep kh xw6; have bw7 := kkeep kh xw7; have bw8 := kkeep kh xw8) | (go_at_call 18; refine (hLe wl wh i3 i4 s3 p3 l3 c3 q3 k3 d3 s4 p4 l4 c4 q4 k4 d4 h3 h4 gh).mono ?_; rintro e wm ⟨rfl, gm⟩; have km : Kp W wm := Kp.trans kh gm; have cw1 := kkeep km xw1; have cw2 := kkeep km xw2; have cw3 := kkeep km xw3; have cw4 := kkeep km xw4; have cw5 := kkeep km xw5; have cw6 := kkeep km xw6; have cw7 := kkeep km xw7; have cw8 := kkeep km xw8; have R0 := kkeep km r0; have Rz0 : wm.frozen? ⟨w.heap.size + 1, 0, none⟩ = false := (kfro km (cell_lt r0)).trans rz0; have R1 := kkeep km r1; have Rz1 : wm.frozen? ⟨w.heap.size + 1, 1, none⟩ = false := (kfro km (cell_lt r1)).trans rz1))
  go_wp2
  exact bodyPost_ret (v := .agg #[.int .u64 LO, .int .u64 HI]) (by simp [results, Try.results7, go_sem, R0, R1]) rfl ⟨rfl, (((Kp.trans (Kp.trans kw kW) km)).setCell hle _).setCell hle _⟩
set_option maxRecDepth 20000 in
set_option maxHeartbeats 1000000 in
theorem stepsE_ (K X Y : Int) (w : World) (hO : ∀ W : World, Kp w W → Calls Try.prog 16 #[.agg #[.int .u64 X, .int .u64 Y]] W fun e w' => ∃ (i j : Int) (s : Bool) (p : Option Addr) (l c : Nat) (q : Option Addr) (k d : Nat) (s2 : Bool) (p2 : Option Addr) (l2 c2 : Nat) (q2 : Option Addr) (k2 d2 : Nat), e = .returned (.agg #[.bool true, .int .i64 i, .bool s, .slice p l c, .slice q k d, .int .i64 j, .bool s2, .slice p2 l2 c2, .slice q2 k2 d2]) ∧ Kp W w') : Calls Try.prog 7 #[.int .i64 K, .agg #[.int .u64 X, .int .u64 Y]] w fun e w' => e = .returned (.agg #[.int .u64 9218868437227405312, .int .u64 18442240474082181120]) ∧ Kp w w' := by
  go_enter Try.func7, Try.ntmps7
  go_wp2_with (first | (go_at_call 16; refine (hO _ ?q0).mono ?_; (case q0 => exact ((Kp.refl w).alloc _).alloc _); rintro e w1 ⟨i, j, s, p, l, c, q, k, d, s2, p2, l2, c2, q2, k2, d2, rfl, g1⟩; have r0 := kkeep g1 (b := w.heap.size + 1) (o := 0) (v := .int .u64 0) (by simp [go_sem]); have rz0 : w1.frozen? ⟨w.heap.size + 1, 0, none⟩ = false := (kfro g1 (by simp <;> omega)).trans (by simp [go_sem]); have r1 := kkeep g1 (b := w.heap.size + 1) (o := 1) (v := .int .u64 0) (by simp [go_sem]); have rz1 : w1.frozen? ⟨w.heap.size + 1, 1, none⟩ = false := (kfro g1 (by simp <;> omega)).trans (by simp [go_sem])) | (go_at_call 17; refine (rempty9_ _).mono ?_; rintro e w2 ⟨rfl, g2⟩; have kk : Kp w1 w2 := Kp.trans ((Kp.refl w1).alloc _) g2; have R0 := kkeep kk r0; have Rz0 : w2.frozen? ⟨w.heap.size + 1, 0, none⟩ = false := (kfro kk (cell_lt r0)).trans rz0; have R1 := kkeep kk r1; have Rz1 : w2.frozen? ⟨w.heap.size + 1, 1, none⟩ = false := (kfro kk (cell_lt r1)).trans rz1))
  have kw : Kp w w1 := Kp.trans (((Kp.refl w).alloc _).alloc _) g1
  exact bodyPost_ret (v := .agg #[.int .u64 9218868437227405312, .int .u64 18442240474082181120]) (by simp [results, Try.results7, go_sem, R0, R1]) rfl ⟨rfl, (((Kp.trans kw kk)).setCell (by simp <;> omega) _).setCell (by simp <;> omega) _⟩
set_option linter.unusedVariables false

theorem Rd.snd {a b : Nat} {L H : Int} (h : Rd a b L H) (c : L ≠ 9218868437227405312) : Fq.snd a b = true := by
  obtain ⟨h1, h2, h3, h4, h5⟩ := h
  by_cases s : Fq.snd a b = true
  · exact s
  · exfalso
    rw [Fq.rlo, if_neg s] at h4
    rw [Fq.rhi, if_neg s] at h5
    have e := emp9 L H h3
    rw [← h4, ← h5, decide_eq_true ⟨rfl, rfl⟩] at e
    exact c (of_decide_eq_true e.symm)
theorem Rd.snd0 {a b : Nat} {H : Int} (h : Rd a b 9218868437227405312 H) : Fq.snd a b = false := by
  obtain ⟨h1, h2, h3, h4, h5⟩ := h
  by_cases s : Fq.snd a b = true
  · exfalso
    have e : Fq.rlo a b = Fq.wD false 9218868437227405312 := by rw [h4, pw_I]; rfl
    have := rlo_inf a b s false 9218868437227405312 e rfl
    simp at this
  · simpa using s
theorem leastZ_ (x y : Int) (hx : x ≠ 9218868437227405312) (hy : y ≠ -9218868437227405312) (i j : Int) (s : Bool) (p : Option Addr) (l c : Nat) (q : Option Addr) (k d : Nat) (s2 : Bool) (p2 : Option Addr) (l2 c2 : Nat) (q2 : Option Addr) (k2 d2 : Nat) (B1 B2 : Nat) (w : World) (h1 : EZ B1 x w i s p l c q k d) (h2 : EZ B2 y w j s2 p2 l2 c2 q2 k2 d2) : Calls Try.prog 18 #[.agg #[.bool false, .int .i64 i, .bool s, .slice p l c, .slice q k d, .int .i64 j, .bool s2, .slice p2 l2 c2, .slice q2 k2 d2]] w fun e w' => e = .returned (.agg #[.int .u64 ((pw x : Nat) : Int), .int .u64 ((pw y : Nat) : Int)]) ∧ Kp w w' := by
  have h := leastP_ i j _ _ s p l c q k d s2 p2 l2 c2 q2 k2 d2 B1 B2 w h1.1 h2.1
  have e1 : (if i = 0 then (fun _ => pw x) (-1 : Int) else 18442240474082181120) = pw x := by
    by_cases c : i = 0
    · rw [if_pos c]
    · rw [if_neg c]
      rcases h1.2 with a | ⟨a, b⟩ | ⟨a, b⟩
      · exact absurd a c
      · exact absurd b hx
      · rw [b, pw_MI]
  have e2 : (if j = 0 then (fun _ => pw y) (1 : Int) else 9218868437227405312) = pw y := by
    by_cases c : j = 0
    · rw [if_pos c]
    · rw [if_neg c]
      rcases h2.2 with a | ⟨a, b⟩ | ⟨a, b⟩
      · exact absurd a c
      · rw [b, pw_I]
      · exact absurd b hy
  rw [e1, e2] at h
  exact h
theorem steps9_ (K : Nat) (hK : K = 1074) (kd : Nat) (hk : kd < 6) (a b : Nat) (L H : Int) (hx : Rd a b L H) (w : World) : Calls Try.prog 7 #[.int .i64 (kd : Int), .agg #[.int .u64 ((a : Nat) : Int), .int .u64 ((b : Nat) : Int)]] w fun e w' => e = .returned (.agg #[.int .u64 ((pw (gLo K kd L H) : Nat) : Int), .int .u64 ((pw (gHi K kd L H) : Nat) : Int)]) ∧ Kp w w' := by
  by_cases c : L = 9218868437227405312
  · subst c
    have s := hx.snd0
    unfold gLo gHi
    rw [if_pos rfl, if_pos rfl, pw_I, pw_MI]
    refine stepsE_ _ _ _ w (fun W _ => ?_)
    refine (ofEmpty_ a b hx.1 hx.2.1 s W).mono ?_
    rintro e w' ⟨v, rfl, ⟨i, j, s, p, l, c, q, k, d, s2, p2, l2, c2, q2, k2, d2, rfl⟩, g⟩
    exact ⟨i, j, s, p, l, c, q, k, d, s2, p2, l2, c2, q2, k2, d2, rfl, g⟩
  · have s := hx.snd c
    unfold gLo gHi
    rw [if_neg c, if_neg c]
    have hv := hx.vd
    have bL := hv.lo
    have bH := hv.hi
    have hv2 := stZ_vd K hK kd L H hv c
    have n1 : stZ K kd L ≠ 9218868437227405312 := by
      by_cases ci : L.natAbs = 9218868437227405312
      · by_cases k0 : kd = 0
        · rw [k0]; unfold stZ; rw [if_pos rfl]; split
          · decide
          · split <;> decide
        · rw [stZ_inf K kd k0 L (by omega)]; exact c
      · have := (stZ_vZ K hK kd L (by unfold BdZ at bL; omega)).2.2; omega
    have n2 : stZ K kd H ≠ -9218868437227405312 := by unfold VdZ at hv2; omega
    refine stepsN_ _ _ _ _ _ (infS (decide (L < 0)) L.natAbs) (infS (decide (H < 0)) H.natAbs) (fun w' s p l c q k d => RP 0 w' s p l c q k d (fN (decide (L < 0)) L.natAbs) (fM L.natAbs)) (fun w' s2 p2 l2 c2 q2 k2 d2 => RP 0 w' s2 p2 l2 c2 q2 k2 d2 (fN (decide (H < 0)) H.natAbs) (fM H.natAbs)) (fun w' i3 s3 p3 l3 c3 q3 k3 d3 => EZ 0 (stZ K kd L) w' i3 s3 p3 l3 c3 q3 k3 d3) (fun w' i4 s4 p4 l4 c4 q4 k4 d4 => EZ 0 (stZ K kd H) w' i4 s4 p4 l4 c4 q4 k4 d4) w (fun W _ => ?_) (fun U W s p l c q k d h g => ?_) (fun U W s2 p2 l2 c2 q2 k2 d2 h g => ?_) (fun U W i3 i4 s3 p3 l3 c3 q3 k3 d3 s4 p4 l4 c4 q4 k4 d4 h3 h4 g => ?_)
    · refine (ofSound_ a b hx.1 hx.2.1 s (decide (L < 0)) (decide (H < 0)) L.natAbs H.natAbs (abs_pw L bL) (abs_pw H bH) hx.2.2.2.1 hx.2.2.2.2 W).mono ?_
      rintro e w' ⟨v, rfl, ⟨s, p, l, c, q, k, d, s2, p2, l2, c2, q2, k2, d2, rfl, h1, h2⟩, g⟩
      exact ⟨s, p, l, c, q, k, d, s2, p2, l2, c2, q2, k2, d2, rfl, h1, h2, g⟩
    · exact steppedZ_ K hK kd hk L bL s p l c q k d 0 W (h.kp g)
    · exact steppedZ_ K hK kd hk H bH s2 p2 l2 c2 q2 k2 d2 0 W (h.kp g)
    · exact leastZ_ _ _ n1 n2 i3 i4 s3 p3 l3 c3 q3 k3 d3 s4 p4 l4 c4 q4 k4 d4 0 0 W (h3.kp g) h4
set_option linter.unusedVariables false
set_option maxRecDepth 20000 in
set_option maxHeartbeats 4000000 in
theorem pstepsA_ (X Y : Int) (a b : Nat) (SL SH : Nat → Nat) (LI HJ : Nat → Int) (h1 : ∀ w : World, Calls Try.prog 6 #[.agg #[.int .u64 X, .int .u64 Y]] w fun e w' => e = .returned (.agg #[.float .f64 a, .float .f64 b]) ∧ Kp w w') (hP : ∀ k : Nat, k < 6 → ∀ w : World, Calls Try.prog 5 #[.int .i64 (k : Int), .agg #[.float .f64 a, .float .f64 b]] w fun e w' => e = .returned (.agg #[.float .f64 (SL k), .float .f64 (SH k)]) ∧ Kp w w') (hO : ∀ k : Nat, ∀ w : World, Calls Try.prog 4 #[.agg #[.float .f64 (SL k), .float .f64 (SH k)]] w fun e w' => e = .returned (.agg #[.int .u64 (LI k), .int .u64 (HJ k)]) ∧ Kp w w') (hR : ∀ k : Nat, k < 6 → ∀ w : World, Calls Try.prog 7 #[.int .i64 (k : Int), .agg #[.int .u64 X, .int .u64 Y]] w fun e w' => e = .returned (.agg #[.int .u64 (LI k), .int .u64 (HJ k)]) ∧ Kp w w') (w : World) : Calls Try.prog 3 #[.agg #[.int .u64 X, .int .u64 Y]] w fun e w' => e = .returned (.bool true) ∧ Kp w w' := by
  have kW : Kp w (w.alloc (.cells #[.int .u64 X, .int .u64 Y] 24)) := (Kp.refl w).alloc _
  have qX := Fq.H2.new w (.int .u64 X) (.int .u64 Y) 24
  generalize hB : w.heap.size = B at qX
  go_enter Try.func3, Try.ntmps3
  go_wp2_with fail
  generalize hW : w.alloc (.cells #[.int .u64 X, .int .u64 Y] 24) = W at kW qX ⊢
  clear hW hB
  go_loopw [3] (fun i wr => ∃ k : Nat, k ≤ 6 ∧ i = .int .i64 k ∧ Kp W wr) (fun i _ => 6 - (intOf i).toNat)
  case atStart => exact ⟨0, by omega, rfl, Kp.refl _⟩
  case round =>
    obtain ⟨k, hk, rfl, gr⟩ := hrel
    replace qX := Fq.H2.keep qX gr
    have kW2 := Kp.trans kW gr
    by_cases ck : k < 6
    · have i1 : (k : Int) < 6 := by omega
      go_wp2_with fail
      generalize hW0 : wr = W9 at gr qX kW2 ⊢
      clear hW0
      refine Fq.wp_region_grow (by kernel_rfl) (by kernel_rfl) (fun ι _ G hG hall => ?_)
      have cc0 : ∀ n, (G n).cell? ⟨B, 0, none⟩ = some (.int .u64 X) := fun n => Fq.gkeep (hG n) qX.1
      have cc1 : ∀ n, (G n).cell? ⟨B, 1, none⟩ = some (.int .u64 Y) := fun n => Fq.gkeep (hG n) qX.2.1
      repeat (go_big_quiet_step (first | (go_at_call 6; exact (h1 _).mono (fun e w' h => ⟨h.1, hall _ (Fq.gtrans (hG _) h.2)⟩)) | (go_at_call 5; exact (hP k ck _).mono (fun e w' h => ⟨h.1, hall _ (Fq.gtrans (hG _) h.2)⟩)) | (go_at_call 4; exact (hO k _).mono (fun e w' h => ⟨h.1, hall _ (Fq.gtrans (hG _) h.2)⟩)) | (go_at_call 7; exact (hR k ck _).mono (fun e w' h => ⟨h.1, hall _ (Fq.gtrans (hG _) h.2)⟩))))
      refine wpQuiet_nil ?_
      rintro _ ⟨nq, rfl⟩
      have gq : Kp W9 (G nq) := hG nq
      clear cc0 cc1 hall hG
      go_wp2
      exact ⟨⟨k + 1, by omega, by go_num, Kp.trans gr gq⟩, by simp [intOf]; omega⟩
    · have i1 : ¬ ((k : Int) < 6) := by omega
      go_wp2_with fail
      exact bodyPost_ret (v := .bool true) (by simp [results, Try.results3, go_sem]) rfl ⟨rfl, kW2⟩
theorem psteps_ (a b : Nat) (ha : a < 18446744073709551616) (hb : b < 18446744073709551616) (w : World) : Calls Try.prog 3 #[.agg #[.int .u64 ((a : Nat) : Int), .int .u64 ((b : Nat) : Int)]] w fun e w' => e = .returned (.bool true) ∧ Kp w w' := by
  obtain ⟨L, H, hx⟩ := Rd.ex a b ha hb
  exact pstepsA_ (a : Int) (b : Int) a b (fun k => pw (gLo 1074 k L H)) (fun k => pw (gHi 1074 k L H)) (fun k => ((pw (gLo 1074 k L H) : Nat) : Int)) (fun k => ((pw (gHi 1074 k L H) : Nat) : Int)) (in9_ a b) (fun k hk w => step9_ 1074 rfl k hk a b L H hx w) (fun k w => out9_ _ _ w) (fun k hk w => steps9_ 1074 rfl k hk a b L H hx w) w
end Go.Proofs.Ytbbmoaiilnfmgaa
