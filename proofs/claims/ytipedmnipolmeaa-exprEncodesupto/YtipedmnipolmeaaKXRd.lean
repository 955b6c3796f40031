import Derived.Test.YtipedmnipolmeaaKXRa
namespace Go.Proofs.Ytipedmnipolmeaa
open Go.RowKit
open Go
namespace X7
set_option linter.unusedVariables false
set_option maxRecDepth 20000 in
set_option maxHeartbeats 400000 in
theorem roperand0_ (x0 x1 x2 x3 x4 : Int) (w : World) : Calls Try.prog 33 #[.agg #[.int .i64 x0, .int .i64 x1, .int .i64 x2, .int .i64 x3, .int .i64 x4], .int .i64 0] w fun e w' => e = .returned (.int .i64 x1) ∧ Kp w w' := by
  have kw : Kp w (w.alloc (.cells #[.int .i64 x0, .int .i64 x1, .int .i64 x2, .int .i64 x3, .int .i64 x4] 61)) := (Kp.refl w).alloc _
  go_enter Try.func33, Try.ntmps33
  go_wp2
  exact bodyPost_ret (v := .int .i64 x1) (by simp [results, Try.results33, go_sem]) rfl ⟨rfl, kw⟩
set_option maxRecDepth 20000 in
set_option maxHeartbeats 400000 in
theorem roperand1_ (x0 x1 x2 x3 x4 : Int) (w : World) : Calls Try.prog 33 #[.agg #[.int .i64 x0, .int .i64 x1, .int .i64 x2, .int .i64 x3, .int .i64 x4], .int .i64 1] w fun e w' => e = .returned (.int .i64 x2) ∧ Kp w w' := by
  have kw : Kp w (w.alloc (.cells #[.int .i64 x0, .int .i64 x1, .int .i64 x2, .int .i64 x3, .int .i64 x4] 61)) := (Kp.refl w).alloc _
  go_enter Try.func33, Try.ntmps33
  go_wp2
  exact bodyPost_ret (v := .int .i64 x2) (by simp [results, Try.results33, go_sem]) rfl ⟨rfl, kw⟩
set_option maxRecDepth 20000 in
set_option maxHeartbeats 400000 in
theorem roperand2_ (x0 x1 x2 x3 x4 : Int) (w : World) : Calls Try.prog 33 #[.agg #[.int .i64 x0, .int .i64 x1, .int .i64 x2, .int .i64 x3, .int .i64 x4], .int .i64 2] w fun e w' => e = .returned (.int .i64 x3) ∧ Kp w w' := by
  have kw : Kp w (w.alloc (.cells #[.int .i64 x0, .int .i64 x1, .int .i64 x2, .int .i64 x3, .int .i64 x4] 61)) := (Kp.refl w).alloc _
  go_enter Try.func33, Try.ntmps33
  go_wp2
  exact bodyPost_ret (v := .int .i64 x3) (by simp [results, Try.results33, go_sem]) rfl ⟨rfl, kw⟩
set_option maxRecDepth 20000 in
set_option maxHeartbeats 2000000 in
theorem rlineX_ (V : Int) (i : Nat) (pc : Option Addr) (lc cc b off lk ck : Nat) (x0 x1 x2 x3 x4 : Int) (hx : ¬ (1 ≤ x0 ∧ x0 ≤ 21)) (hV : 0 ≤ V ∧ V ≤ 32) (hi : i < lk) (hk : lk ≤ 1024) (hc : lc ≤ 256) (w : World) (e0 : w.cell? ⟨b, off + i * 5, none⟩ = some (.int .i64 x0)) (e1 : w.cell? ⟨b, off + i * 5 + 1, none⟩ = some (.int .i64 x1)) (e2 : w.cell? ⟨b, off + i * 5 + 2, none⟩ = some (.int .i64 x2)) (e3 : w.cell? ⟨b, off + i * 5 + 3, none⟩ = some (.int .i64 x3)) (e4 : w.cell? ⟨b, off + i * 5 + 4, none⟩ = some (.int .i64 x4)) : Calls Try.prog 26 #[.agg #[.int .i64 V, .slice pc lc cc, .slice (some ⟨b, off, none⟩) lk ck], .int .i64 (i : Int)] w fun e w' => e = .returned (.int .i64 163) ∧ Kp w w' := by
  have j1 : (i : Int) < (lk : Int) := by omega
  have kw : Kp w ((w.alloc (.cells #[.int .i64 V, .slice pc lc cc, .slice (some ⟨b, off, none⟩) lk ck] 25)).alloc (.cells #[.int .i64 x0, .int .i64 x1, .int .i64 x2, .int .i64 x3, .int .i64 x4] 61)) := ((Kp.refl w).alloc _).alloc _
  have kb : Kp w (w.alloc (.cells #[.int .i64 V, .slice pc lc cc, .slice (some ⟨b, off, none⟩) lk ck] 25)) := (Kp.refl w).alloc _
  replace e0 := kkeep kb e0
  replace e1 := kkeep kb e1
  replace e2 := kkeep kb e2
  replace e3 := kkeep kb e3
  replace e4 := kkeep kb e4
  have y0 : ((w.alloc (.cells #[.int .i64 V, .slice pc lc cc, .slice (some ⟨b, off, none⟩) lk ck] 25)).alloc (.cells #[.int .i64 x0, .int .i64 x1, .int .i64 x2, .int .i64 x3, .int .i64 x4] 61)).cell? ⟨w.heap.size + 1, 0, none⟩ = some (.int .i64 x0) := by simp [go_sem]
  have y1 : ((w.alloc (.cells #[.int .i64 V, .slice pc lc cc, .slice (some ⟨b, off, none⟩) lk ck] 25)).alloc (.cells #[.int .i64 x0, .int .i64 x1, .int .i64 x2, .int .i64 x3, .int .i64 x4] 61)).cell? ⟨w.heap.size + 1, 1, none⟩ = some (.int .i64 x1) := by simp [go_sem]
  have y2 : ((w.alloc (.cells #[.int .i64 V, .slice pc lc cc, .slice (some ⟨b, off, none⟩) lk ck] 25)).alloc (.cells #[.int .i64 x0, .int .i64 x1, .int .i64 x2, .int .i64 x3, .int .i64 x4] 61)).cell? ⟨w.heap.size + 1, 2, none⟩ = some (.int .i64 x2) := by simp [go_sem]
  have y3 : ((w.alloc (.cells #[.int .i64 V, .slice pc lc cc, .slice (some ⟨b, off, none⟩) lk ck] 25)).alloc (.cells #[.int .i64 x0, .int .i64 x1, .int .i64 x2, .int .i64 x3, .int .i64 x4] 61)).cell? ⟨w.heap.size + 1, 3, none⟩ = some (.int .i64 x3) := by simp [go_sem]
  have y4 : ((w.alloc (.cells #[.int .i64 V, .slice pc lc cc, .slice (some ⟨b, off, none⟩) lk ck] 25)).alloc (.cells #[.int .i64 x0, .int .i64 x1, .int .i64 x2, .int .i64 x3, .int .i64 x4] 61)).cell? ⟨w.heap.size + 1, 4, none⟩ = some (.int .i64 x4) := by simp [go_sem]
  have z0 : ((w.alloc (.cells #[.int .i64 V, .slice pc lc cc, .slice (some ⟨b, off, none⟩) lk ck] 25)).alloc (.cells #[.int .i64 x0, .int .i64 x1, .int .i64 x2, .int .i64 x3, .int .i64 x4] 61)).cell? ⟨w.heap.size, 0, none⟩ = some (.int .i64 V) := by simp [go_sem]
  have z1 : ((w.alloc (.cells #[.int .i64 V, .slice pc lc cc, .slice (some ⟨b, off, none⟩) lk ck] 25)).alloc (.cells #[.int .i64 x0, .int .i64 x1, .int .i64 x2, .int .i64 x3, .int .i64 x4] 61)).cell? ⟨w.heap.size, 1, none⟩ = some (.slice pc lc cc) := by simp [go_sem]
  clear kb
  have hop := ropands_ x0
  rw [(opN_opsN x0).2 hx] at hop
  clear hx hV hi hk hc
  go_enter Try.func26, Try.ntmps26
  go_upto_region 2 with fail
  generalize ((w.alloc (.cells #[.int .i64 V, .slice pc lc cc, .slice (some ⟨b, off, none⟩) lk ck] 25)).alloc (.cells #[.int .i64 x0, .int .i64 x1, .int .i64 x2, .int .i64 x3, .int .i64 x4] 61)) = W0 at *
  generalize w.heap.size + 1 = B1 at *
  generalize hB0 : w.heap.size = B0 at *
  clear e0 e1 e2 e3 e4
  go_wp2_with (first | (go_at_call 32; refine (hop _).mono ?_; rintro e w' ⟨rfl, hw'⟩; obtain rfl := hw'.symm; clear hw'))
  exact bodyPost_ret (v := .int .i64 163) (by simp [results, Try.results26, go_sem]) rfl ⟨rfl, kw⟩
set_option maxRecDepth 20000 in
set_option maxHeartbeats 8000000 in
theorem rlineB_ (V : Int) (i : Nat) (pc : Option Addr) (lc cc b off lk ck : Nat) (x0 x1 x2 x3 x4 : Int) (hx : 1 ≤ x0 ∧ x0 ≤ 21) (hV : 0 ≤ V ∧ V ≤ 32) (hi : i < lk) (hk : lk ≤ 1024) (hc : lc ≤ 256) (w : World) (e0 : w.cell? ⟨b, off + i * 5, none⟩ = some (.int .i64 x0)) (e1 : w.cell? ⟨b, off + i * 5 + 1, none⟩ = some (.int .i64 x1)) (e2 : w.cell? ⟨b, off + i * 5 + 2, none⟩ = some (.int .i64 x2)) (e3 : w.cell? ⟨b, off + i * 5 + 3, none⟩ = some (.int .i64 x3)) (e4 : w.cell? ⟨b, off + i * 5 + 4, none⟩ = some (.int .i64 x4)) : Calls Try.prog 26 #[.agg #[.int .i64 V, .slice pc lc cc, .slice (some ⟨b, off, none⟩) lk ck], .int .i64 (i : Int)] w fun e w' => e = .returned (.int .i64 (lnE (V + i - 1) lc x0 x1 x2 x3 x4)) ∧ Kp w w' := by
  have j1 : (i : Int) < (lk : Int) := by omega
  have kw : Kp w ((w.alloc (.cells #[.int .i64 V, .slice pc lc cc, .slice (some ⟨b, off, none⟩) lk ck] 25)).alloc (.cells #[.int .i64 x0, .int .i64 x1, .int .i64 x2, .int .i64 x3, .int .i64 x4] 61)) := ((Kp.refl w).alloc _).alloc _
  have kb : Kp w (w.alloc (.cells #[.int .i64 V, .slice pc lc cc, .slice (some ⟨b, off, none⟩) lk ck] 25)) := (Kp.refl w).alloc _
  replace e0 := kkeep kb e0
  replace e1 := kkeep kb e1
  replace e2 := kkeep kb e2
  replace e3 := kkeep kb e3
  replace e4 := kkeep kb e4
  have y0 : ((w.alloc (.cells #[.int .i64 V, .slice pc lc cc, .slice (some ⟨b, off, none⟩) lk ck] 25)).alloc (.cells #[.int .i64 x0, .int .i64 x1, .int .i64 x2, .int .i64 x3, .int .i64 x4] 61)).cell? ⟨w.heap.size + 1, 0, none⟩ = some (.int .i64 x0) := by simp [go_sem]
  have y1 : ((w.alloc (.cells #[.int .i64 V, .slice pc lc cc, .slice (some ⟨b, off, none⟩) lk ck] 25)).alloc (.cells #[.int .i64 x0, .int .i64 x1, .int .i64 x2, .int .i64 x3, .int .i64 x4] 61)).cell? ⟨w.heap.size + 1, 1, none⟩ = some (.int .i64 x1) := by simp [go_sem]
  have y2 : ((w.alloc (.cells #[.int .i64 V, .slice pc lc cc, .slice (some ⟨b, off, none⟩) lk ck] 25)).alloc (.cells #[.int .i64 x0, .int .i64 x1, .int .i64 x2, .int .i64 x3, .int .i64 x4] 61)).cell? ⟨w.heap.size + 1, 2, none⟩ = some (.int .i64 x2) := by simp [go_sem]
  have y3 : ((w.alloc (.cells #[.int .i64 V, .slice pc lc cc, .slice (some ⟨b, off, none⟩) lk ck] 25)).alloc (.cells #[.int .i64 x0, .int .i64 x1, .int .i64 x2, .int .i64 x3, .int .i64 x4] 61)).cell? ⟨w.heap.size + 1, 3, none⟩ = some (.int .i64 x3) := by simp [go_sem]
  have y4 : ((w.alloc (.cells #[.int .i64 V, .slice pc lc cc, .slice (some ⟨b, off, none⟩) lk ck] 25)).alloc (.cells #[.int .i64 x0, .int .i64 x1, .int .i64 x2, .int .i64 x3, .int .i64 x4] 61)).cell? ⟨w.heap.size + 1, 4, none⟩ = some (.int .i64 x4) := by simp [go_sem]
  have z0 : ((w.alloc (.cells #[.int .i64 V, .slice pc lc cc, .slice (some ⟨b, off, none⟩) lk ck] 25)).alloc (.cells #[.int .i64 x0, .int .i64 x1, .int .i64 x2, .int .i64 x3, .int .i64 x4] 61)).cell? ⟨w.heap.size, 0, none⟩ = some (.int .i64 V) := by simp [go_sem]
  have z1 : ((w.alloc (.cells #[.int .i64 V, .slice pc lc cc, .slice (some ⟨b, off, none⟩) lk ck] 25)).alloc (.cells #[.int .i64 x0, .int .i64 x1, .int .i64 x2, .int .i64 x3, .int .i64 x4] 61)).cell? ⟨w.heap.size, 1, none⟩ = some (.slice pc lc cc) := by simp [go_sem]
  clear kb
  have hop := ropands_ x0
  rw [(opN_opsN x0).1 hx] at hop
  obtain ⟨M, hM⟩ : ∃ M : Int, M = V + i - 1 := ⟨_, rfl⟩
  rw [← hM]
  obtain ⟨R, hR⟩ : ∃ R : Int, R = lnE M lc x0 x1 x2 x3 x4 := ⟨_, rfl⟩
  rw [← hR]
  have HRR : Hid (R = lnE M lc x0 x1 x2 x3 x4) := hR
  have hU0 : 0 ≤ opN x0 ∧ opN x0 ≤ 3 := by unfold opN; split; decide; split; decide; split <;> decide
  obtain ⟨U, hU⟩ : ∃ U : Int, U = opN x0 := ⟨_, rfl⟩
  rw [← hU] at hop hU0
  have hU1 : ¬ (U < 0) := by omega
  have HX : Hid ((1 ≤ x0 ∧ x0 ≤ 21) ∧ opN x0 = U) := ⟨hx, hU.symm⟩
  have HW : Hid (M = V + i - 1) := hM
  have hwr : IntKind.i64.wrap (V + (i : Int)) = V + (i : Int) := by rw [IntKind.wrap_i64]; omega
  have hlc : (lc : Int) ≤ 256 := by omega
  clear hx hU hM hR hV hi hk hc hU0
  go_enter Try.func26, Try.ntmps26
  go_upto_region 2 with fail
  generalize ((w.alloc (.cells #[.int .i64 V, .slice pc lc cc, .slice (some ⟨b, off, none⟩) lk ck] 25)).alloc (.cells #[.int .i64 x0, .int .i64 x1, .int .i64 x2, .int .i64 x3, .int .i64 x4] 61)) = W0 at *
  generalize w.heap.size + 1 = B1 at *
  generalize hB0 : w.heap.size = B0 at *
  clear e0 e1 e2 e3 e4
  have HS : Hid ((W0.cell? ⟨B1, 0, none⟩ = some (.int .i64 x0) ∧ W0.cell? ⟨B1, 1, none⟩ = some (.int .i64 x1) ∧ W0.cell? ⟨B1, 2, none⟩ = some (.int .i64 x2) ∧ W0.cell? ⟨B1, 3, none⟩ = some (.int .i64 x3) ∧ W0.cell? ⟨B1, 4, none⟩ = some (.int .i64 x4) ∧ W0.cell? ⟨B0, 0, none⟩ = some (.int .i64 V) ∧ W0.cell? ⟨B0, 1, none⟩ = some (.slice pc lc cc)) ∧ Kp w W0) := ⟨⟨y0, y1, y2, y3, y4, z0, z1⟩, kw⟩
  go_upto_region 5 with (first | (go_at_call 32; refine (hop _).mono ?_; rintro e w' ⟨rfl, hw'⟩; obtain rfl := hw'.symm; clear hw'))
  clear y0 y1 y2 y3 y4 z0 z1 kw
  go_wp2_with fail
  go_loopw [7, 8] (fun s7 s8 wr => ∃ j : Nat, ((j = 0 ∧ s7 = .int .i64 0) ∨ (j = 1 ∧ s7 = .int .i64 1) ∨ (j = 2 ∧ s7 = .int .i64 2) ∨ (j = 3 ∧ s7 = .int .i64 3)) ∧ (∀ k : Nat, k < j → opOk M U (k : Int) (if k = 0 then x1 else if k = 1 then x2 else x3) = true) ∧ (wr.cell? ⟨B1, 0, none⟩ = some (.int .i64 x0) ∧ wr.cell? ⟨B1, 1, none⟩ = some (.int .i64 x1) ∧ wr.cell? ⟨B1, 2, none⟩ = some (.int .i64 x2) ∧ wr.cell? ⟨B1, 3, none⟩ = some (.int .i64 x3) ∧ wr.cell? ⟨B1, 4, none⟩ = some (.int .i64 x4) ∧ wr.cell? ⟨B0, 0, none⟩ = some (.int .i64 V) ∧ wr.cell? ⟨B0, 1, none⟩ = some (.slice pc lc cc)) ∧ Kp w wr) (fun s7 _ _ => 3 - (intOf s7).toNat)
  case atStart => exact ⟨0, Or.inl ⟨rfl, rfl⟩, fun k hk => by omega, HS.out.1, HS.out.2⟩
  case round =>
    obtain ⟨j, hj, hall, ⟨y0, y1, y2, y3, y4, z0, z1⟩, hk⟩ := hrel
    clear HS
    have HK : Hid (Kp w wr) := hk
    rcases hj with ⟨rfl, rfl⟩ | ⟨rfl, rfl⟩ | ⟨rfl, rfl⟩ | ⟨rfl, rfl⟩
    · by_cases cu : (0 : Int) < U
      · by_cases hk9 : 0 ≤ x1 ∧ x1 ≤ M
        · have ho := roperand0_ x0 x1 x2 x3 x4
          have u1 : ¬ (U ≤ (0 : Int)) := by omega
          have v1 : ¬ (x1 < 0) := by omega
          have v2 : ¬ (V + (i : Int) ≤ x1) := by have := HW.out; omega
          have HO : Hid (∀ k : Nat, k < 1 → opOk M U (k : Int) (if k = 0 then x1 else if k = 1 then x2 else x3) = true) := fun k hk => by
            by_cases c : k = 0
            · subst c; exact (show opOk M U 0 x1 = true by unfold opOk; rw [if_pos cu]; simpa using hk9)
            · exact hall k (by omega)
          clear hall hk9 cu
          go_wp2_with (first | (go_at_call 33; refine (ho _).mono ?_; rintro e w4 ⟨rfl, g4⟩; have HB : Hid ((w4.cell? ⟨B1, 0, none⟩ = some (.int .i64 x0) ∧ w4.cell? ⟨B1, 1, none⟩ = some (.int .i64 x1) ∧ w4.cell? ⟨B1, 2, none⟩ = some (.int .i64 x2) ∧ w4.cell? ⟨B1, 3, none⟩ = some (.int .i64 x3) ∧ w4.cell? ⟨B1, 4, none⟩ = some (.int .i64 x4) ∧ w4.cell? ⟨B0, 0, none⟩ = some (.int .i64 V) ∧ w4.cell? ⟨B0, 1, none⟩ = some (.slice pc lc cc)) ∧ Kp w w4) := ⟨⟨kkeep g4 y0, kkeep g4 y1, kkeep g4 y2, kkeep g4 y3, kkeep g4 y4, kkeep g4 z0, kkeep g4 z1⟩, HK.out.trans g4⟩; replace z0 := kkeep g4 z0; clear y0 y1 y2 y3 y4 z1 g4 ho))
          exact ⟨⟨1, Or.inr (Or.inl ⟨rfl, rfl⟩), HO.out, HB.out.1, HB.out.2⟩, by decide⟩
        · have ho := roperand0_ x0 x1 x2 x3 x4
          have u1 : ¬ (U ≤ (0 : Int)) := by omega
          have HO : Hid (lnE M lc x0 x1 x2 x3 x4 = 164) := lnE_arg _ _ _ _ _ _ _ HX.out.1 (by rw [HX.out.2]; exact Or.inl (by unfold opOk; rw [if_pos cu]; rw [decide_eq_false_iff_not]; omega))
          by_cases v1 : x1 < 0
          · clear hall hk9 cu
            go_wp2_with (first | (go_at_call 33; refine (ho _).mono ?_; rintro e w4 ⟨rfl, g4⟩; have HB : Hid ((w4.cell? ⟨B1, 0, none⟩ = some (.int .i64 x0) ∧ w4.cell? ⟨B1, 1, none⟩ = some (.int .i64 x1) ∧ w4.cell? ⟨B1, 2, none⟩ = some (.int .i64 x2) ∧ w4.cell? ⟨B1, 3, none⟩ = some (.int .i64 x3) ∧ w4.cell? ⟨B1, 4, none⟩ = some (.int .i64 x4) ∧ w4.cell? ⟨B0, 0, none⟩ = some (.int .i64 V) ∧ w4.cell? ⟨B0, 1, none⟩ = some (.slice pc lc cc)) ∧ Kp w w4) := ⟨⟨kkeep g4 y0, kkeep g4 y1, kkeep g4 y2, kkeep g4 y3, kkeep g4 y4, kkeep g4 z0, kkeep g4 z1⟩, HK.out.trans g4⟩; replace z0 := kkeep g4 z0; clear y0 y1 y2 y3 y4 z1 g4 ho))
            obtain rfl : R = 164 := HRR.out.trans HO.out
            exact bodyPost_ret (v := .int .i64 164) (by simp [results, Try.results26, go_sem]) rfl ⟨rfl, HB.out.2⟩
          · have v2 : V + (i : Int) ≤ x1 := by have := HW.out; omega
            clear hall hk9 cu
            go_wp2_with (first | (go_at_call 33; refine (ho _).mono ?_; rintro e w4 ⟨rfl, g4⟩; have HB : Hid ((w4.cell? ⟨B1, 0, none⟩ = some (.int .i64 x0) ∧ w4.cell? ⟨B1, 1, none⟩ = some (.int .i64 x1) ∧ w4.cell? ⟨B1, 2, none⟩ = some (.int .i64 x2) ∧ w4.cell? ⟨B1, 3, none⟩ = some (.int .i64 x3) ∧ w4.cell? ⟨B1, 4, none⟩ = some (.int .i64 x4) ∧ w4.cell? ⟨B0, 0, none⟩ = some (.int .i64 V) ∧ w4.cell? ⟨B0, 1, none⟩ = some (.slice pc lc cc)) ∧ Kp w w4) := ⟨⟨kkeep g4 y0, kkeep g4 y1, kkeep g4 y2, kkeep g4 y3, kkeep g4 y4, kkeep g4 z0, kkeep g4 z1⟩, HK.out.trans g4⟩; replace z0 := kkeep g4 z0; clear y0 y1 y2 y3 y4 z1 g4 ho))
            obtain rfl : R = 164 := HRR.out.trans HO.out
            exact bodyPost_ret (v := .int .i64 164) (by simp [results, Try.results26, go_sem]) rfl ⟨rfl, HB.out.2⟩
      · by_cases hk9 : x1 = 0
        · have ho := roperand0_ x0 x1 x2 x3 x4
          have u1 : U ≤ (0 : Int) := by omega
          have HO : Hid (∀ k : Nat, k < 1 → opOk M U (k : Int) (if k = 0 then x1 else if k = 1 then x2 else x3) = true) := fun k hk => by
            by_cases c : k = 0
            · subst c; exact (show opOk M U 0 x1 = true by unfold opOk; rw [if_neg cu]; simpa using hk9)
            · exact hall k (by omega)
          have v0 : (x1 == 0) = true := by simp [hk9]
          have v0' : (x1 != 0) = false := by simp [hk9]
          clear hall hk9 cu
          go_wp2_with (first | (go_at_call 33; refine (ho _).mono ?_; rintro e w4 ⟨rfl, g4⟩; have HB : Hid ((w4.cell? ⟨B1, 0, none⟩ = some (.int .i64 x0) ∧ w4.cell? ⟨B1, 1, none⟩ = some (.int .i64 x1) ∧ w4.cell? ⟨B1, 2, none⟩ = some (.int .i64 x2) ∧ w4.cell? ⟨B1, 3, none⟩ = some (.int .i64 x3) ∧ w4.cell? ⟨B1, 4, none⟩ = some (.int .i64 x4) ∧ w4.cell? ⟨B0, 0, none⟩ = some (.int .i64 V) ∧ w4.cell? ⟨B0, 1, none⟩ = some (.slice pc lc cc)) ∧ Kp w w4) := ⟨⟨kkeep g4 y0, kkeep g4 y1, kkeep g4 y2, kkeep g4 y3, kkeep g4 y4, kkeep g4 z0, kkeep g4 z1⟩, HK.out.trans g4⟩; replace z0 := kkeep g4 z0; clear y0 y1 y2 y3 y4 z1 g4 ho))
          exact ⟨⟨1, Or.inr (Or.inl ⟨rfl, rfl⟩), HO.out, HB.out.1, HB.out.2⟩, by decide⟩
        · have ho := roperand0_ x0 x1 x2 x3 x4
          have u1 : U ≤ (0 : Int) := by omega
          have HO : Hid (lnE M lc x0 x1 x2 x3 x4 = 164) := lnE_arg _ _ _ _ _ _ _ HX.out.1 (by rw [HX.out.2]; exact Or.inl (by unfold opOk; rw [if_neg cu]; rw [decide_eq_false_iff_not]; exact hk9))
          have v0 : (x1 == 0) = false := beq_eq_false_iff_ne.2 hk9
          have v0' : (x1 != 0) = true := by simp [hk9]
          clear hall hk9 cu
          go_wp2_with (first | (go_at_call 33; refine (ho _).mono ?_; rintro e w4 ⟨rfl, g4⟩; have HB : Hid ((w4.cell? ⟨B1, 0, none⟩ = some (.int .i64 x0) ∧ w4.cell? ⟨B1, 1, none⟩ = some (.int .i64 x1) ∧ w4.cell? ⟨B1, 2, none⟩ = some (.int .i64 x2) ∧ w4.cell? ⟨B1, 3, none⟩ = some (.int .i64 x3) ∧ w4.cell? ⟨B1, 4, none⟩ = some (.int .i64 x4) ∧ w4.cell? ⟨B0, 0, none⟩ = some (.int .i64 V) ∧ w4.cell? ⟨B0, 1, none⟩ = some (.slice pc lc cc)) ∧ Kp w w4) := ⟨⟨kkeep g4 y0, kkeep g4 y1, kkeep g4 y2, kkeep g4 y3, kkeep g4 y4, kkeep g4 z0, kkeep g4 z1⟩, HK.out.trans g4⟩; replace z0 := kkeep g4 z0; clear y0 y1 y2 y3 y4 z1 g4 ho))
          obtain rfl : R = 164 := HRR.out.trans HO.out
          exact bodyPost_ret (v := .int .i64 164) (by simp [results, Try.results26, go_sem]) rfl ⟨rfl, HB.out.2⟩
    · by_cases cu : (1 : Int) < U
      · by_cases hk9 : 0 ≤ x2 ∧ x2 ≤ M
        · have ho := roperand1_ x0 x1 x2 x3 x4
          have u1 : ¬ (U ≤ (1 : Int)) := by omega
          have v1 : ¬ (x2 < 0) := by omega
          have v2 : ¬ (V + (i : Int) ≤ x2) := by have := HW.out; omega
          have HO : Hid (∀ k : Nat, k < 2 → opOk M U (k : Int) (if k = 0 then x1 else if k = 1 then x2 else x3) = true) := fun k hk => by
            by_cases c : k = 1
            · subst c; exact (show opOk M U 1 x2 = true by unfold opOk; rw [if_pos cu]; simpa using hk9)
            · exact hall k (by omega)
          clear hall hk9 cu
          go_wp2_with (first | (go_at_call 33; refine (ho _).mono ?_; rintro e w4 ⟨rfl, g4⟩; have HB : Hid ((w4.cell? ⟨B1, 0, none⟩ = some (.int .i64 x0) ∧ w4.cell? ⟨B1, 1, none⟩ = some (.int .i64 x1) ∧ w4.cell? ⟨B1, 2, none⟩ = some (.int .i64 x2) ∧ w4.cell? ⟨B1, 3, none⟩ = some (.int .i64 x3) ∧ w4.cell? ⟨B1, 4, none⟩ = some (.int .i64 x4) ∧ w4.cell? ⟨B0, 0, none⟩ = some (.int .i64 V) ∧ w4.cell? ⟨B0, 1, none⟩ = some (.slice pc lc cc)) ∧ Kp w w4) := ⟨⟨kkeep g4 y0, kkeep g4 y1, kkeep g4 y2, kkeep g4 y3, kkeep g4 y4, kkeep g4 z0, kkeep g4 z1⟩, HK.out.trans g4⟩; replace z0 := kkeep g4 z0; clear y0 y1 y2 y3 y4 z1 g4 ho))
          exact ⟨⟨2, Or.inr (Or.inr (Or.inl ⟨rfl, rfl⟩)), HO.out, HB.out.1, HB.out.2⟩, by decide⟩
        · have ho := roperand1_ x0 x1 x2 x3 x4
          have u1 : ¬ (U ≤ (1 : Int)) := by omega
          have HO : Hid (lnE M lc x0 x1 x2 x3 x4 = 164) := lnE_arg _ _ _ _ _ _ _ HX.out.1 (by rw [HX.out.2]; exact Or.inr (Or.inl (by unfold opOk; rw [if_pos cu]; rw [decide_eq_false_iff_not]; omega)))
          by_cases v1 : x2 < 0
          · clear hall hk9 cu
            go_wp2_with (first | (go_at_call 33; refine (ho _).mono ?_; rintro e w4 ⟨rfl, g4⟩; have HB : Hid ((w4.cell? ⟨B1, 0, none⟩ = some (.int .i64 x0) ∧ w4.cell? ⟨B1, 1, none⟩ = some (.int .i64 x1) ∧ w4.cell? ⟨B1, 2, none⟩ = some (.int .i64 x2) ∧ w4.cell? ⟨B1, 3, none⟩ = some (.int .i64 x3) ∧ w4.cell? ⟨B1, 4, none⟩ = some (.int .i64 x4) ∧ w4.cell? ⟨B0, 0, none⟩ = some (.int .i64 V) ∧ w4.cell? ⟨B0, 1, none⟩ = some (.slice pc lc cc)) ∧ Kp w w4) := ⟨⟨kkeep g4 y0, kkeep g4 y1, kkeep g4 y2, kkeep g4 y3, kkeep g4 y4, kkeep g4 z0, kkeep g4 z1⟩, HK.out.trans g4⟩; replace z0 := kkeep g4 z0; clear y0 y1 y2 y3 y4 z1 g4 ho))
            obtain rfl : R = 164 := HRR.out.trans HO.out
            exact bodyPost_ret (v := .int .i64 164) (by simp [results, Try.results26, go_sem]) rfl ⟨rfl, HB.out.2⟩
          · have v2 : V + (i : Int) ≤ x2 := by have := HW.out; omega
            clear hall hk9 cu
            go_wp2_with (first | (go_at_call 33; refine (ho _).mono ?_; rintro e w4 ⟨rfl, g4⟩; have HB : Hid ((w4.cell? ⟨B1, 0, none⟩ = some (.int .i64 x0) ∧ w4.cell? ⟨B1, 1, none⟩ = some (.int .i64 x1) ∧ w4.cell? ⟨B1, 2, none⟩ = some (.int .i64 x2) ∧ w4.cell? ⟨B1, 3, none⟩ = some (.int .i64 x3) ∧ w4.cell? ⟨B1, 4, none⟩ = some (.int .i64 x4) ∧ w4.cell? ⟨B0, 0, none⟩ = some (.int .i64 V) ∧ w4.cell? ⟨B0, 1, none⟩ = some (.slice pc lc cc)) ∧ Kp w w4) := ⟨⟨kkeep g4 y0, kkeep g4 y1, kkeep g4 y2, kkeep g4 y3, kkeep g4 y4, kkeep g4 z0, kkeep g4 z1⟩, HK.out.trans g4⟩; replace z0 := kkeep g4 z0; clear y0 y1 y2 y3 y4 z1 g4 ho))
            obtain rfl : R = 164 := HRR.out.trans HO.out
            exact bodyPost_ret (v := .int .i64 164) (by simp [results, Try.results26, go_sem]) rfl ⟨rfl, HB.out.2⟩
      · by_cases hk9 : x2 = 0
        · have ho := roperand1_ x0 x1 x2 x3 x4
          have u1 : U ≤ (1 : Int) := by omega
          have HO : Hid (∀ k : Nat, k < 2 → opOk M U (k : Int) (if k = 0 then x1 else if k = 1 then x2 else x3) = true) := fun k hk => by
            by_cases c : k = 1
            · subst c; exact (show opOk M U 1 x2 = true by unfold opOk; rw [if_neg cu]; simpa using hk9)
            · exact hall k (by omega)
          have v0 : (x2 == 0) = true := by simp [hk9]
          have v0' : (x2 != 0) = false := by simp [hk9]
          clear hall hk9 cu
          go_wp2_with (first | (go_at_call 33; refine (ho _).mono ?_; rintro e w4 ⟨rfl, g4⟩; have HB : Hid ((w4.cell? ⟨B1, 0, none⟩ = some (.int .i64 x0) ∧ w4.cell? ⟨B1, 1, none⟩ = some (.int .i64 x1) ∧ w4.cell? ⟨B1, 2, none⟩ = some (.int .i64 x2) ∧ w4.cell? ⟨B1, 3, none⟩ = some (.int .i64 x3) ∧ w4.cell? ⟨B1, 4, none⟩ = some (.int .i64 x4) ∧ w4.cell? ⟨B0, 0, none⟩ = some (.int .i64 V) ∧ w4.cell? ⟨B0, 1, none⟩ = some (.slice pc lc cc)) ∧ Kp w w4) := ⟨⟨kkeep g4 y0, kkeep g4 y1, kkeep g4 y2, kkeep g4 y3, kkeep g4 y4, kkeep g4 z0, kkeep g4 z1⟩, HK.out.trans g4⟩; replace z0 := kkeep g4 z0; clear y0 y1 y2 y3 y4 z1 g4 ho))
          exact ⟨⟨2, Or.inr (Or.inr (Or.inl ⟨rfl, rfl⟩)), HO.out, HB.out.1, HB.out.2⟩, by decide⟩
        · have ho := roperand1_ x0 x1 x2 x3 x4
          have u1 : U ≤ (1 : Int) := by omega
          have HO : Hid (lnE M lc x0 x1 x2 x3 x4 = 164) := lnE_arg _ _ _ _ _ _ _ HX.out.1 (by rw [HX.out.2]; exact Or.inr (Or.inl (by unfold opOk; rw [if_neg cu]; rw [decide_eq_false_iff_not]; exact hk9)))
          have v0 : (x2 == 0) = false := beq_eq_false_iff_ne.2 hk9
          have v0' : (x2 != 0) = true := by simp [hk9]
          clear hall hk9 cu
          go_wp2_with (first | (go_at_call 33; refine (ho _).mono ?_; rintro e w4 ⟨rfl, g4⟩; have HB : Hid ((w4.cell? ⟨B1, 0, none⟩ = some (.int .i64 x0) ∧ w4.cell? ⟨B1, 1, none⟩ = some (.int .i64 x1) ∧ w4.cell? ⟨B1, 2, none⟩ = some (.int .i64 x2) ∧ w4.cell? ⟨B1, 3, none⟩ = some (.int .i64 x3) ∧ w4.cell? ⟨B1, 4, none⟩ = some (.int .i64 x4) ∧ w4.cell? ⟨B0, 0, none⟩ = some (.int .i64 V) ∧ w4.cell? ⟨B0, 1, none⟩ = some (.slice pc lc cc)) ∧ Kp w w4) := ⟨⟨kkeep g4 y0, kkeep g4 y1, kkeep g4 y2, kkeep g4 y3, kkeep g4 y4, kkeep g4 z0, kkeep g4 z1⟩, HK.out.trans g4⟩; replace z0 := kkeep g4 z0; clear y0 y1 y2 y3 y4 z1 g4 ho))
          obtain rfl : R = 164 := HRR.out.trans HO.out
          exact bodyPost_ret (v := .int .i64 164) (by simp [results, Try.results26, go_sem]) rfl ⟨rfl, HB.out.2⟩
    · by_cases cu : (2 : Int) < U
      · by_cases hk9 : 0 ≤ x3 ∧ x3 ≤ M
        · have ho := roperand2_ x0 x1 x2 x3 x4
          have u1 : ¬ (U ≤ (2 : Int)) := by omega
          have v1 : ¬ (x3 < 0) := by omega
          have v2 : ¬ (V + (i : Int) ≤ x3) := by have := HW.out; omega
          have HO : Hid (∀ k : Nat, k < 3 → opOk M U (k : Int) (if k = 0 then x1 else if k = 1 then x2 else x3) = true) := fun k hk => by
            by_cases c : k = 2
            · subst c; exact (show opOk M U 2 x3 = true by unfold opOk; rw [if_pos cu]; simpa using hk9)
            · exact hall k (by omega)
          clear hall hk9 cu
          go_wp2_with (first | (go_at_call 33; refine (ho _).mono ?_; rintro e w4 ⟨rfl, g4⟩; have HB : Hid ((w4.cell? ⟨B1, 0, none⟩ = some (.int .i64 x0) ∧ w4.cell? ⟨B1, 1, none⟩ = some (.int .i64 x1) ∧ w4.cell? ⟨B1, 2, none⟩ = some (.int .i64 x2) ∧ w4.cell? ⟨B1, 3, none⟩ = some (.int .i64 x3) ∧ w4.cell? ⟨B1, 4, none⟩ = some (.int .i64 x4) ∧ w4.cell? ⟨B0, 0, none⟩ = some (.int .i64 V) ∧ w4.cell? ⟨B0, 1, none⟩ = some (.slice pc lc cc)) ∧ Kp w w4) := ⟨⟨kkeep g4 y0, kkeep g4 y1, kkeep g4 y2, kkeep g4 y3, kkeep g4 y4, kkeep g4 z0, kkeep g4 z1⟩, HK.out.trans g4⟩; replace z0 := kkeep g4 z0; clear y0 y1 y2 y3 y4 z1 g4 ho))
          exact ⟨⟨3, Or.inr (Or.inr (Or.inr ⟨rfl, rfl⟩)), HO.out, HB.out.1, HB.out.2⟩, by decide⟩
        · have ho := roperand2_ x0 x1 x2 x3 x4
          have u1 : ¬ (U ≤ (2 : Int)) := by omega
          have HO : Hid (lnE M lc x0 x1 x2 x3 x4 = 164) := lnE_arg _ _ _ _ _ _ _ HX.out.1 (by rw [HX.out.2]; exact Or.inr (Or.inr (by unfold opOk; rw [if_pos cu]; rw [decide_eq_false_iff_not]; omega)))
          by_cases v1 : x3 < 0
          · clear hall hk9 cu
            go_wp2_with (first | (go_at_call 33; refine (ho _).mono ?_; rintro e w4 ⟨rfl, g4⟩; have HB : Hid ((w4.cell? ⟨B1, 0, none⟩ = some (.int .i64 x0) ∧ w4.cell? ⟨B1, 1, none⟩ = some (.int .i64 x1) ∧ w4.cell? ⟨B1, 2, none⟩ = some (.int .i64 x2) ∧ w4.cell? ⟨B1, 3, none⟩ = some (.int .i64 x3) ∧ w4.cell? ⟨B1, 4, none⟩ = some (.int .i64 x4) ∧ w4.cell? ⟨B0, 0, none⟩ = some (.int .i64 V) ∧ w4.cell? ⟨B0, 1, none⟩ = some (.slice pc lc cc)) ∧ Kp w w4) := ⟨⟨kkeep g4 y0, kkeep g4 y1, kkeep g4 y2, kkeep g4 y3, kkeep g4 y4, kkeep g4 z0, kkeep g4 z1⟩, HK.out.trans g4⟩; replace z0 := kkeep g4 z0; clear y0 y1 y2 y3 y4 z1 g4 ho))
            obtain rfl : R = 164 := HRR.out.trans HO.out
            exact bodyPost_ret (v := .int .i64 164) (by simp [results, Try.results26, go_sem]) rfl ⟨rfl, HB.out.2⟩
          · have v2 : V + (i : Int) ≤ x3 := by have := HW.out; omega
            clear hall hk9 cu
            go_wp2_with (first | (go_at_call 33; refine (ho _).mono ?_; rintro e w4 ⟨rfl, g4⟩; have HB : Hid ((w4.cell? ⟨B1, 0, none⟩ = some (.int .i64 x0) ∧ w4.cell? ⟨B1, 1, none⟩ = some (.int .i64 x1) ∧ w4.cell? ⟨B1, 2, none⟩ = some (.int .i64 x2) ∧ w4.cell? ⟨B1, 3, none⟩ = some (.int .i64 x3) ∧ w4.cell? ⟨B1, 4, none⟩ = some (.int .i64 x4) ∧ w4.cell? ⟨B0, 0, none⟩ = some (.int .i64 V) ∧ w4.cell? ⟨B0, 1, none⟩ = some (.slice pc lc cc)) ∧ Kp w w4) := ⟨⟨kkeep g4 y0, kkeep g4 y1, kkeep g4 y2, kkeep g4 y3, kkeep g4 y4, kkeep g4 z0, kkeep g4 z1⟩, HK.out.trans g4⟩; replace z0 := kkeep g4 z0; clear y0 y1 y2 y3 y4 z1 g4 ho))
            obtain rfl : R = 164 := HRR.out.trans HO.out
            exact bodyPost_ret (v := .int .i64 164) (by simp [results, Try.results26, go_sem]) rfl ⟨rfl, HB.out.2⟩
      · by_cases hk9 : x3 = 0
        · have ho := roperand2_ x0 x1 x2 x3 x4
          have u1 : U ≤ (2 : Int) := by omega
          have HO : Hid (∀ k : Nat, k < 3 → opOk M U (k : Int) (if k = 0 then x1 else if k = 1 then x2 else x3) = true) := fun k hk => by
            by_cases c : k = 2
            · subst c; exact (show opOk M U 2 x3 = true by unfold opOk; rw [if_neg cu]; simpa using hk9)
            · exact hall k (by omega)
          have v0 : (x3 == 0) = true := by simp [hk9]
          have v0' : (x3 != 0) = false := by simp [hk9]
          clear hall hk9 cu
          go_wp2_with (first | (go_at_call 33; refine (ho _).mono ?_; rintro e w4 ⟨rfl, g4⟩; have HB : Hid ((w4.cell? ⟨B1, 0, none⟩ = some (.int .i64 x0) ∧ w4.cell? ⟨B1, 1, none⟩ = some (.int .i64 x1) ∧ w4.cell? ⟨B1, 2, none⟩ = some (.int .i64 x2) ∧ w4.cell? ⟨B1, 3, none⟩ = some (.int .i64 x3) ∧ w4.cell? ⟨B1, 4, none⟩ = some (.int .i64 x4) ∧ w4.cell? ⟨B0, 0, none⟩ = some (.int .i64 V) ∧ w4.cell? ⟨B0, 1, none⟩ = some (.slice pc lc cc)) ∧ Kp w w4) := ⟨⟨kkeep g4 y0, kkeep g4 y1, kkeep g4 y2, kkeep g4 y3, kkeep g4 y4, kkeep g4 z0, kkeep g4 z1⟩, HK.out.trans g4⟩; replace z0 := kkeep g4 z0; clear y0 y1 y2 y3 y4 z1 g4 ho))
          exact ⟨⟨3, Or.inr (Or.inr (Or.inr ⟨rfl, rfl⟩)), HO.out, HB.out.1, HB.out.2⟩, by decide⟩
        · have ho := roperand2_ x0 x1 x2 x3 x4
          have u1 : U ≤ (2 : Int) := by omega
          have HO : Hid (lnE M lc x0 x1 x2 x3 x4 = 164) := lnE_arg _ _ _ _ _ _ _ HX.out.1 (by rw [HX.out.2]; exact Or.inr (Or.inr (by unfold opOk; rw [if_neg cu]; rw [decide_eq_false_iff_not]; exact hk9)))
          have v0 : (x3 == 0) = false := beq_eq_false_iff_ne.2 hk9
          have v0' : (x3 != 0) = true := by simp [hk9]
          clear hall hk9 cu
          go_wp2_with (first | (go_at_call 33; refine (ho _).mono ?_; rintro e w4 ⟨rfl, g4⟩; have HB : Hid ((w4.cell? ⟨B1, 0, none⟩ = some (.int .i64 x0) ∧ w4.cell? ⟨B1, 1, none⟩ = some (.int .i64 x1) ∧ w4.cell? ⟨B1, 2, none⟩ = some (.int .i64 x2) ∧ w4.cell? ⟨B1, 3, none⟩ = some (.int .i64 x3) ∧ w4.cell? ⟨B1, 4, none⟩ = some (.int .i64 x4) ∧ w4.cell? ⟨B0, 0, none⟩ = some (.int .i64 V) ∧ w4.cell? ⟨B0, 1, none⟩ = some (.slice pc lc cc)) ∧ Kp w w4) := ⟨⟨kkeep g4 y0, kkeep g4 y1, kkeep g4 y2, kkeep g4 y3, kkeep g4 y4, kkeep g4 z0, kkeep g4 z1⟩, HK.out.trans g4⟩; replace z0 := kkeep g4 z0; clear y0 y1 y2 y3 y4 z1 g4 ho))
          obtain rfl : R = 164 := HRR.out.trans HO.out
          exact bodyPost_ret (v := .int .i64 164) (by simp [results, Try.results26, go_sem]) rfl ⟨rfl, HB.out.2⟩
    · have q0 := hall 0 (by decide)
      have q1 := hall 1 (by decide)
      have q2 := hall 2 (by decide)
      simp only [if_true, Nat.one_ne_zero, if_false, show ¬ (2 = 0) from by decide, show ¬ (2 = 1) from by decide] at q0 q1 q2
      have hV := lnE_num M lc x0 x1 x2 x3 x4 HX.out.1 (by rw [HX.out.2]; exact q0) (by rw [HX.out.2]; exact q1) (by rw [HX.out.2]; exact q2)
      have hall9 : True := trivial
      clear hall q0 q1 q2
      by_cases c1 : x0 = 1
      · subst c1
        rw [show nbLo 1 = 0 from rfl, show nbHi 1 lc = (lc : Int) - 1 from rfl] at hV
        by_cases n1 : x4 < 0
        · rw [if_neg (by omega), if_neg (by decide)] at hV
          obtain rfl : R = 164 := HRR.out.trans hV
          clear hV HX HRR HK hall9
          go_wp2
          exact bodyPost_ret (v := .int .i64 164) (by simp [results, Try.results26, go_sem]) rfl ⟨rfl, hk⟩
        by_cases n2 : (lc : Int) ≤ x4
        · rw [if_neg (by omega), if_neg (by decide)] at hV
          obtain rfl : R = 164 := HRR.out.trans hV
          clear hV HX HRR HK hall9
          go_wp2
          exact bodyPost_ret (v := .int .i64 164) (by simp [results, Try.results26, go_sem]) rfl ⟨rfl, hk⟩
        · rw [if_pos (by omega)] at hV
          obtain rfl : R = 0 := HRR.out.trans hV
          clear hV HX HRR HK hall9
          go_wp2
          exact bodyPost_ret (v := .int .i64 0) (by simp [results, Try.results26, go_sem]) rfl ⟨rfl, hk⟩
      by_cases c12 : x0 = 12
      · subst c12
        rw [show nbLo 12 = -1024 from rfl, show nbHi 12 lc = 1024 from rfl] at hV
        by_cases n1 : x4 < -1024
        · rw [if_neg (by omega), if_pos rfl] at hV
          obtain rfl : R = 165 := HRR.out.trans hV
          clear hV HX HRR HK hall9
          go_wp2
          exact bodyPost_ret (v := .int .i64 165) (by simp [results, Try.results26, go_sem]) rfl ⟨rfl, hk⟩
        by_cases n2 : 1024 < x4
        · rw [if_neg (by omega), if_pos rfl] at hV
          obtain rfl : R = 165 := HRR.out.trans hV
          clear hV HX HRR HK hall9
          go_wp2
          exact bodyPost_ret (v := .int .i64 165) (by simp [results, Try.results26, go_sem]) rfl ⟨rfl, hk⟩
        · rw [if_pos (by omega)] at hV
          obtain rfl : R = 0 := HRR.out.trans hV
          clear hV HX HRR HK hall9
          go_wp2
          exact bodyPost_ret (v := .int .i64 0) (by simp [results, Try.results26, go_sem]) rfl ⟨rfl, hk⟩
      have d1 : (x0 == 1) = false := beq_eq_false_iff_ne.2 c1
      have d12 : (x0 == 12) = false := beq_eq_false_iff_ne.2 c12
      have d1' : (x0 != 1) = true := by simp [c1]
      have d12' : (x0 != 12) = true := by simp [c12]
      rw [show nbLo x0 = 0 from by unfold nbLo; rw [if_neg c12], show nbHi x0 lc = 0 from by unfold nbHi; rw [if_neg c1, if_neg c12], if_neg c12] at hV
      by_cases n1 : x4 = 0
      · subst n1
        rw [if_pos (by omega)] at hV
        obtain rfl : R = 0 := HRR.out.trans hV
        clear hV HX HRR HK hall9
        go_wp2
        exact bodyPost_ret (v := .int .i64 0) (by simp [results, Try.results26, go_sem]) rfl ⟨rfl, hk⟩
      · have n2 : (x4 == 0) = false := beq_eq_false_iff_ne.2 n1
        have n2' : (x4 != 0) = true := by simp [n1]
        rw [if_neg (by omega)] at hV
        obtain rfl : R = 164 := HRR.out.trans hV
        clear hV HX HRR HK hall9
        go_wp2
        exact bodyPost_ret (v := .int .i64 164) (by simp [results, Try.results26, go_sem]) rfl ⟨rfl, hk⟩
theorem rline_ (V : Int) (i : Nat) (pc : Option Addr) (lc cc b off lk ck : Nat) (x0 x1 x2 x3 x4 : Int) (hV : 0 ≤ V ∧ V ≤ 32) (hi : i < lk) (hk : lk ≤ 1024) (hc : lc ≤ 256) (w : World) (e0 : w.cell? ⟨b, off + i * 5, none⟩ = some (.int .i64 x0)) (e1 : w.cell? ⟨b, off + i * 5 + 1, none⟩ = some (.int .i64 x1)) (e2 : w.cell? ⟨b, off + i * 5 + 2, none⟩ = some (.int .i64 x2)) (e3 : w.cell? ⟨b, off + i * 5 + 3, none⟩ = some (.int .i64 x3)) (e4 : w.cell? ⟨b, off + i * 5 + 4, none⟩ = some (.int .i64 x4)) : Calls Try.prog 26 #[.agg #[.int .i64 V, .slice pc lc cc, .slice (some ⟨b, off, none⟩) lk ck], .int .i64 (i : Int)] w fun e w' => e = .returned (.int .i64 (lnE (V + i - 1) lc x0 x1 x2 x3 x4)) ∧ Kp w w' := by
  by_cases hx : 1 ≤ x0 ∧ x0 ≤ 21
  · exact rlineB_ V i pc lc cc b off lk ck x0 x1 x2 x3 x4 hx hV hi hk hc w e0 e1 e2 e3 e4
  · rw [lnE_op _ _ _ _ _ _ _ hx]
    exact rlineX_ V i pc lc cc b off lk ck x0 x1 x2 x3 x4 hx hV hi hk hc w e0 e1 e2 e3 e4
end X7
end Go.Proofs.Ytipedmnipolmeaa
