import Derived.Test.YtmgfbalhgfkibaaGreatDoorKEY
import Derived.Test.YtmgfbalhgfkibaaGreatDoorKSRa
namespace Go.Proofs.YtmgfbalhgfkibaaGreatDoor
open Go.RowKit
set_option linter.unusedVariables false

theorem vZ_plz (n : Bool) (m : Nat) : vZ (Fq.plz n m) = Iv n m := by
  cases n
  · have e : Fq.plz false m = (m : Int) := by simp [Fq.plz]
    rw [e, vZ_pos _ (by omega)]
    unfold Iv; simp
  · have e : Fq.plz true m = -(m : Int) := by simp [Fq.plz]
    rw [e, vZ_neg, vZ_pos _ (by omega)]
    unfold Iv; simp
theorem cmI_ne (x : Int) (h : x ≠ 0) : (cmI x 0 == 0) = false := by
  unfold cmI
  rcases Int.lt_trichotomy x 0 with c | c | c
  · rw [if_pos c]; rfl
  · exact absurd c h
  · rw [if_neg (by omega), if_pos c]; rfl
theorem cmI_mul (x y : Int) (hx : x ≠ 0) (hy : y ≠ 0) : IntKind.i64.wrap (cmI x 0 * cmI y 0) = if (x < 0 ↔ y < 0) then 1 else -1 := by
  unfold cmI
  rcases Int.lt_trichotomy x 0 with c | c | c
  · rcases Int.lt_trichotomy y 0 with e | e | e
    · rw [if_pos c, if_pos e, if_pos (show (x < 0 ↔ y < 0) by omega)]; decide
    · exact absurd e hy
    · rw [if_pos c, if_neg (show ¬ y < 0 by omega), if_pos e, if_neg (show ¬ (x < 0 ↔ y < 0) by omega)]; decide
  · exact absurd c hx
  · rcases Int.lt_trichotomy y 0 with e | e | e
    · rw [if_neg (show ¬ x < 0 by omega), if_pos c, if_pos e, if_neg (show ¬ (x < 0 ↔ y < 0) by omega)]; decide
    · exact absurd e hy
    · rw [if_neg (show ¬ x < 0 by omega), if_pos c, if_neg (show ¬ y < 0 by omega), if_pos e, if_pos (show (x < 0 ↔ y < 0) by omega)]; decide
theorem prodE_ (K : Nat) (hK : K = 1074) (n n' : Bool) (m m' : Nat) (hm : m ≤ 9218868437227405312) (hm' : m' ≤ 9218868437227405312) (s : Bool) (p : Option Addr) (l c : Nat) (q : Option Addr) (k d : Nat) (s2 : Bool) (p2 : Option Addr) (l2 c2 : Nat) (q2 : Option Addr) (k2 d2 : Nat) (B1 B2 : Nat) (w : World) (h1 : RP B1 w s p l c q k d (fN n m) (fM m)) (h2 : RP B2 w s2 p2 l2 c2 q2 k2 d2 (fN n' m') (fM m')) : Calls Tryz.prog 28 #[.agg #[.int .i64 (infS n m), .bool s, .slice p l c, .slice q k d], .agg #[.int .i64 (infS n' m'), .bool s2, .slice p2 l2 c2, .slice q2 k2 d2]] w fun e w' => ∃ (s3 : Bool) (p3 : Option Addr) (l3 c3 : Nat) (q3 : Option Addr) (k3 d3 : Nat), e = .returned (.agg #[.int .i64 (pi9 (Fq.plz n m) (Fq.plz n' m')), .bool s3, .slice p3 l3 c3, .slice q3 k3 d3]) ∧ (pi9 (Fq.plz n m) (Fq.plz n' m') = 0 → XP w.heap.size w' s3 p3 l3 c3 q3 k3 d3 (pV9 (Fq.plz n m) (Fq.plz n' m')) (2 ^ K * 2 ^ K) 7000) ∧ Kp w w' := by
  have hs1 := fun (W : World) (g : Kp w W) => signE_ n m s p l c q k d B1 W (h1.kp g)
  have hs2 := fun (W : World) (g : Kp w W) => signE_ n' m' s2 p2 l2 c2 q2 k2 d2 B2 W (h2.kp g)
  have z0 : ∀ (W : World) (s3 : Bool) (p3 : Option Addr) (l3 c3 : Nat) (q3 : Option Addr) (k3 d3 : Nat), RP w.heap.size W s3 p3 l3 c3 q3 k3 d3 false 0 → XP w.heap.size W s3 p3 l3 c3 q3 k3 d3 0 (2 ^ K * 2 ^ K) 7000 := fun W s3 p3 l3 c3 q3 k3 d3 h => by
    have g := RP.xp h K hK
    have iz : Iv false 0 = 0 := by unfold Iv; rw [if_neg (by decide), Fq.vV_zero]; rfl
    rw [iz] at g
    exact g.as 0 _ _ (Nat.mul_ne_zero (by have := Nat.two_pow_pos K; omega) (by have := Nat.two_pow_pos K; omega)) (by simp) (by omega)
  have PX : Fq.plz n m = if n then -(m : Int) else m := by unfold Fq.plz; cases n <;> rfl
  have PY : Fq.plz n' m' = if n' then -(m' : Int) else m' := by unfold Fq.plz; cases n' <;> rfl
  by_cases zx : (Fq.plz n m) = 0
  · have c9 : ¬ pII (Fq.plz n m) (Fq.plz n' m') := fun h => h.1.1 zx
    have e1 : pi9 (Fq.plz n m) (Fq.plz n' m') = 0 := by unfold pi9; rw [if_neg c9]
    have e2 : pV9 (Fq.plz n m) (Fq.plz n' m') = 0 := by unfold pV9; rw [if_neg c9, zx, vZ_zero, Int.zero_mul]
    rw [e1, e2]
    refine (prZ1_ _ _ _ s p l c q k d s2 p2 l2 c2 q2 k2 d2 (by rw [zx]; decide) w hs1).mono ?_
    rintro e w' ⟨s3, p3, l3, c3, q3, k3, d3, rfl, q, g⟩
    exact ⟨s3, p3, l3, c3, q3, k3, d3, rfl, fun _ => z0 _ _ _ _ _ _ _ _ q, g⟩
  by_cases zy : (Fq.plz n' m') = 0
  · have c9 : ¬ pII (Fq.plz n m) (Fq.plz n' m') := fun h => h.1.2 zy
    have e1 : pi9 (Fq.plz n m) (Fq.plz n' m') = 0 := by unfold pi9; rw [if_neg c9]
    have e2 : pV9 (Fq.plz n m) (Fq.plz n' m') = 0 := by unfold pV9; rw [if_neg c9, zy, vZ_zero, Int.mul_zero]
    rw [e1, e2]
    refine (prZ2_ _ _ _ _ s p l c q k d s2 p2 l2 c2 q2 k2 d2 (cmI_ne _ zx) (by rw [zy]; decide) w hs1 hs2).mono ?_
    rintro e w' ⟨s3, p3, l3, c3, q3, k3, d3, rfl, q, g⟩
    exact ⟨s3, p3, l3, c3, q3, k3, d3, rfl, fun _ => z0 _ _ _ _ _ _ _ _ q, g⟩
  by_cases ci : m = 9218868437227405312 ∨ m' = 9218868437227405312
  · have c9 : pII (Fq.plz n m) (Fq.plz n' m') := by
      unfold pII
      refine ⟨⟨zx, zy⟩, ?_⟩
      rw [PX, PY]
      cases n <;> cases n' <;> simp <;> omega
    have e1 : pi9 (Fq.plz n m) (Fq.plz n' m') = if ((Fq.plz n m) < 0 ↔ (Fq.plz n' m') < 0) then 1 else -1 := by unfold pi9; rw [if_pos c9]
    have ti : ((infS n m) != 0) = true ∨ (((infS n m) != 0) = false ∧ ((infS n' m') != 0) = true) := by
      unfold infS
      by_cases c1 : m = 9218868437227405312
      · left; rw [if_pos c1]; cases n <;> rfl
      · right; rw [if_neg c1, if_pos (by omega)]; cases n' <;> exact ⟨rfl, rfl⟩
    rw [e1]
    refine (prI_ _ _ _ _ _ s p l c q k d s2 p2 l2 c2 q2 k2 d2 (cmI_ne _ zx) (cmI_ne _ zy) ti (cmI_mul _ _ zx zy) w hs1 hs2).mono ?_
    rintro e w' ⟨s3, p3, l3, c3, q3, k3, d3, rfl, q, g⟩
    refine ⟨s3, p3, l3, c3, q3, k3, d3, rfl, fun h => ?_, g⟩
    split at h <;> omega
  · have c9 : ¬ pII (Fq.plz n m) (Fq.plz n' m') := by
      unfold pII
      rw [PX, PY]
      cases n <;> cases n' <;> simp <;> omega
    have e1 : pi9 (Fq.plz n m) (Fq.plz n' m') = 0 := by unfold pi9; rw [if_neg c9]
    have e2 : pV9 (Fq.plz n m) (Fq.plz n' m') = Iv n m * Iv n' m' := by unfold pV9; rw [if_neg c9, vZ_plz, vZ_plz]
    have i1 : infS n m = 0 := by unfold infS; rw [if_neg (by omega)]
    have i2 : infS n' m' = 0 := by unfold infS; rw [if_neg (by omega)]
    rw [show fN n m = n from by unfold fN; rw [if_neg (by omega)], show fM m = m from by unfold fM; rw [if_neg (by omega)]] at h1
    rw [show fN n' m' = n' from by unfold fN; rw [if_neg (by omega)], show fM m' = m' from by unfold fM; rw [if_neg (by omega)]] at h2
    rw [i1] at hs1
    rw [i2] at hs2
    rw [e1, e2, i1, i2]
    refine (prF_ _ _ _ _ _ s p l c q k d s2 p2 l2 c2 q2 k2 d2 (cmI_ne _ zx) (cmI_ne _ zy) w hs1 hs2 (fun W g => xmul_ (Iv n m) (Iv n' m') (2 ^ K) (2 ^ K) 1500 1500 (by omega) s p l c q k d s2 p2 l2 c2 q2 k2 d2 B1 B2 W ((h1.kp g).xp K hK) ((h2.kp g).xp K hK))).mono ?_
    rintro e w' ⟨s3, p3, l3, c3, q3, k3, d3, rfl, q, g⟩
    exact ⟨s3, p3, l3, c3, q3, k3, d3, rfl, fun _ => q.as _ _ _ (Nat.mul_ne_zero (by have := Nat.two_pow_pos K; omega) (by have := Nat.two_pow_pos K; omega)) rfl (by omega), g⟩
set_option maxRecDepth 20000 in
set_option maxHeartbeats 2000000 in
theorem radd6c_ (X Y C D LO HI : Int) (P1 P2 P3 : World → Value → Prop) (w : World) (hk1 : ∀ (W W' : World) (v : Value), Kp W W' → P1 W v → P1 W' v) (hO1 : ∀ W : World, Kp w W → Calls Tryz.prog 17 #[.agg #[.int .u64 X, .int .u64 Y]] W fun e w' => ∃ v, e = .returned v ∧ P1 w' v ∧ Kp W w') (hO2 : ∀ W : World, Kp w W → Calls Tryz.prog 17 #[.agg #[.int .u64 C, .int .u64 D]] W fun e w' => ∃ v, e = .returned v ∧ P2 w' v ∧ Kp W w')  (hPl : ∀ (W : World) (u v : Value), Kp w W → P1 W u → P2 W v → Calls Tryz.prog 16 #[u, v] W fun e w' => ∃ v', e = .returned v' ∧ P3 w' v' ∧ Kp W w') (hLe : ∀ (W : World) (v : Value), Kp w W → P3 W v → Calls Tryz.prog 15 #[v] W fun e w' => e = .returned (.agg #[.int .u64 LO, .int .u64 HI]) ∧ Kp W w') : Calls Tryz.prog 7 #[.agg #[.int .u64 X, .int .u64 Y], .agg #[.int .u64 C, .int .u64 D]] w fun e w' => e = .returned (.agg #[.int .u64 LO, .int .u64 HI]) ∧ Kp w w' := by
  go_enter Tryz.func7, Tryz.ntmps7
  go_wp2
  generalize hW : (((w.alloc (.cells #[.int .u64 X, .int .u64 Y] 24)).alloc (.cells #[.int .u64 C, .int .u64 D] 24)).alloc (.cells #[.int .u64 0, .int .u64 0] 24)) = W
  have kw : Kp w W := by rw [← hW]; exact (((Kp.refl w).alloc _).alloc _).alloc _
  have xw0 : W.cell? ⟨w.heap.size, 0, none⟩ = some (.int .u64 X) := by rw [← hW]; simp [go_sem]
  have dw0 : W.drew.cell? ⟨w.heap.size, 0, none⟩ = some (.int .u64 X) := xw0
  have xw1 : W.cell? ⟨w.heap.size, 1, none⟩ = some (.int .u64 Y) := by rw [← hW]; simp [go_sem]
  have dw1 : W.drew.cell? ⟨w.heap.size, 1, none⟩ = some (.int .u64 Y) := xw1
  have xw2 : W.cell? ⟨w.heap.size + 1, 0, none⟩ = some (.int .u64 C) := by rw [← hW]; simp [go_sem]
  have dw2 : W.drew.cell? ⟨w.heap.size + 1, 0, none⟩ = some (.int .u64 C) := xw2
  have xw3 : W.cell? ⟨w.heap.size + 1, 1, none⟩ = some (.int .u64 D) := by rw [← hW]; simp [go_sem]
  have dw3 : W.drew.cell? ⟨w.heap.size + 1, 1, none⟩ = some (.int .u64 D) := xw3
  have r0 : W.cell? ⟨w.heap.size + 2, 0, none⟩ = some (.int .u64 0) := by rw [← hW]; simp [go_sem]
  have rz0 : W.frozen? ⟨w.heap.size + 2, 0, none⟩ = false := by rw [← hW]; simp [go_sem]
  have r1 : W.cell? ⟨w.heap.size + 2, 1, none⟩ = some (.int .u64 0) := by rw [← hW]; simp [go_sem]
  have rz1 : W.frozen? ⟨w.heap.size + 2, 1, none⟩ = false := by rw [← hW]; simp [go_sem]
  have hn1 : w.heap.size + 2 ≠ w.heap.size := by omega
  have hn2 : w.heap.size + 2 ≠ w.heap.size + 1 := by omega
  clear hW
  go_region_held3 (fun w' => w'.cell? ⟨w.heap.size, 0, none⟩ = some (.int .u64 X) ∧ w'.cell? ⟨w.heap.size, 1, none⟩ = some (.int .u64 Y) ∧ w'.cell? ⟨w.heap.size + 1, 0, none⟩ = some (.int .u64 C) ∧ w'.cell? ⟨w.heap.size + 1, 1, none⟩ = some (.int .u64 D)) (first | (with_reducible exact ⟨xw0, xw1, xw2, xw3⟩) | (with_reducible exact ⟨dw0, dw1, dw2, dw3⟩) | (with_reducible exact ⟨wA0, wA1, wA2, wA3⟩) | (with_reducible exact ⟨wB0, wB1, wB2, wB3⟩) | (with_reducible exact ⟨wC0, wC1, wC2, wC3⟩) | (with_reducible exact ⟨wD0, wD1, wD2, wD3⟩) | (exact ⟨((World.cell?_setCell_far _ _ _ _ hn1).trans ((World.cell?_setCell_far _ _ _ _ hn1).trans wD0)), ((World.cell?_setCell_far _ _ _ _ hn1).trans ((World.cell?_setCell_far _ _ _ _ hn1).trans wD1)), ((World.cell?_setCell_far _ _ _ _ hn2).trans ((World.cell?_setCell_far _ _ _ _ hn2).trans wD2)), ((World.cell?_setCell_far _ _ _ _ hn2).trans ((World.cell?_setCell_far _ _ _ _ hn2).trans wD3))⟩)) (first | (go_at_call_of 17 (Value.int .u64 X); refine (hO1 _ ?q0).mono ?_; (case q0 => exact kw.drew); rintro e wA ⟨v1, rfl, hv1, gA⟩; have kA : Kp W wA := Kp.trans (Kp.drew (Kp.refl _)) gA; have wA0 := kkeep kA xw0; have wA1 := kkeep kA xw1; have wA2 := kkeep kA xw2; have wA3 := kkeep kA xw3) | (go_at_call_of 17 (Value.int .u64 C); refine (hO2 _ ?q0).mono ?_; (case q0 => exact kw.trans kA); rintro e wB ⟨v2, rfl, hv2, gB⟩; have kB : Kp W wB := Kp.trans kA gB; have hv3 := hk1 _ _ _ gB hv1; have wB0 := kkeep kB xw0; have wB1 := kkeep kB xw1; have wB2 := kkeep kB xw2; have wB3 := kkeep kB xw3) | (go_at_call 16; refine (hPl _ v1 v2 (kw.trans kB) hv3 hv2).mono ?_; rintro e wC ⟨v6, rfl, hv6, gC⟩; have kC : Kp W wC := Kp.trans kB gC; have wC0 := kkeep kC xw0; have wC1 := kkeep kC xw1; have wC2 := kkeep kC xw2; have wC3 := kkeep kC xw3) | (go_at_call 15; refine (hLe _ v6 (kw.trans kC) hv6).mono ?_; rintro e wD ⟨rfl, gD⟩; have kD : Kp W wD := Kp.trans kC gD; have wD0 := kkeep kD xw0; have wD1 := kkeep kD xw1; have wD2 := kkeep kD xw2; have wD3 := kkeep kD xw3; have R0 := kkeep kD r0; have Rz0 : wD.frozen? ⟨w.heap.size + 2, 0, none⟩ = false := (kfro kD (cell_lt r0)).trans rz0; have R1 := kkeep kD r1; have Rz1 : wD.frozen? ⟨w.heap.size + 2, 1, none⟩ = false := (kfro kD (cell_lt r1)).trans rz1))
  go_wp2
  exact bodyPost_ret (v := .agg #[.int .u64 LO, .int .u64 HI]) (by simp [results, Tryz.results7, go_sem, R0, R1]) rfl ⟨rfl, (((Kp.trans kw kD)).setCell (by simp <;> omega) _).setCell (by simp <;> omega) _⟩
end Go.Proofs.YtmgfbalhgfkibaaGreatDoor
