import Derived.Test.YtjkbapnndoldgaaKH8Q
import Derived.Test.YtjkbapnndoldgaaKSHmfar
namespace Go.Proofs.Ytjkbapnndoldgaa
open Go.RowKit

def slLen (v : Value) : Nat := match v with | .slice _ n _ => n | _ => 0
def Inn (z : Nat → Int) (cs : List Int) (bi : Nat) (fd : Bool) (k : Nat) : Prop := (fd = false → ∀ j, j < k → ¬ Cand z cs j) ∧ (fd = true → Cand z cs bi ∧ ∀ j, j < k → Cand z cs j → z bi ≤ z j)
theorem Inn.skip {z : Nat → Int} {cs : List Int} {bi : Nat} {fd : Bool} {k : Nat} (h : Inn z cs bi fd k) (hc : ¬ Cand z cs k) : Inn z cs bi fd (k + 1) := by
  refine ⟨fun h1 j hj => ?_, fun h1 => ⟨(h.2 h1).1, fun j hj hj2 => ?_⟩⟩
  · by_cases c : j = k
    · rw [c]; exact hc
    · exact h.1 h1 j (by omega)
  · by_cases c : j = k
    · rw [c] at hj2; exact absurd hj2 hc
    · exact (h.2 h1).2 j (by omega) hj2
theorem Inn.setF {z : Nat → Int} {cs : List Int} {bi : Nat} {k : Nat} (h : Inn z cs bi false k) (hc : Cand z cs k) : Inn z cs k true (k + 1) := by
  refine ⟨(fun h1 => by cases h1), fun _ => ⟨hc, fun j hj hj2 => ?_⟩⟩
  by_cases c : j = k
  · rw [c]; omega
  · exact absurd hj2 (h.1 rfl j (by omega))
theorem Inn.setL {z : Nat → Int} {cs : List Int} {bi : Nat} {k : Nat} (h : Inn z cs bi true k) (hc : Cand z cs k) (hl : z k < z bi) : Inn z cs k true (k + 1) := by
  refine ⟨(fun h1 => by cases h1), fun _ => ⟨hc, fun j hj hj2 => ?_⟩⟩
  by_cases c : j = k
  · rw [c]; omega
  · have := (h.2 rfl).2 j (by omega) hj2; omega
theorem Inn.keepT {z : Nat → Int} {cs : List Int} {bi : Nat} {k : Nat} (h : Inn z cs bi true k) (hl : ¬ z k < z bi) : Inn z cs bi true (k + 1) := by
  refine ⟨(fun h1 => by cases h1), fun _ => ⟨(h.2 rfl).1, fun j hj hj2 => ?_⟩⟩
  by_cases c : j = k
  · rw [c]; omega
  · exact (h.2 rfl).2 j (by omega) hj2
set_option maxRecDepth 20000 in
set_option maxHeartbeats 4000000 in
theorem cuts_ (z : Nat → Int) (hz : ∀ j, j < 4 → BdZ (z j)) (w : World) : Calls Try.prog 104 #[.agg #[.int .u64 (pI (z 0)), .int .u64 (pI (z 1))], .agg #[.int .u64 (pI (z 2)), .int .u64 (pI (z 3))]] w fun e w' => ∃ v cs, e = .returned v ∧ U9.Own w' w.heap.size v (cs.map pI) ∧ Cut z cs ∧ Kp w w' := by
  have HZ : Hid (∀ j, j < 4 → BdZ (z j)) := hz
  obtain ⟨i0, hi0, hi1, hi2, hi3⟩ := U9.inf64p
  clear hz
  have HA : Hid (∀ j, j < 4 → (((w.alloc (.cells #[.int .u64 (pI (z 0)), .int .u64 (pI (z 1))] 36)).alloc (.cells #[.int .u64 (pI (z 2)), .int .u64 (pI (z 3))] 36)).alloc (.cells #[.int .u64 (pI (z 0)), .int .u64 (pI (z 1)), .int .u64 (pI (z 2)), .int .u64 (pI (z 3))] 34)).cell? ⟨w.heap.size + 2, j, none⟩ = some (.int .u64 (pI (z j)))) := by
    intro j hj
    match j, hj with
    | 0, _ => simp [go_sem]
    | 1, _ => simp [go_sem]
    | 2, _ => simp [go_sem]
    | 3, _ => simp [go_sem]
  go_enter Try.func104, Try.ntmps104
  go_wp2
  have k3 : Kp w (((w.alloc (.cells #[.int .u64 (pI (z 0)), .int .u64 (pI (z 1))] 36)).alloc (.cells #[.int .u64 (pI (z 2)), .int .u64 (pI (z 3))] 36)).alloc (.cells #[.int .u64 (pI (z 0)), .int .u64 (pI (z 1)), .int .u64 (pI (z 2)), .int .u64 (pI (z 3))] 34)) := ((((Kp.refl w).alloc _).alloc _).alloc _)
  generalize hW : ((w.alloc (.cells #[.int .u64 (pI (z 0)), .int .u64 (pI (z 1))] 36)).alloc (.cells #[.int .u64 (pI (z 2)), .int .u64 (pI (z 3))] 36)).alloc (.cells #[.int .u64 (pI (z 0)), .int .u64 (pI (z 1)), .int .u64 (pI (z 2)), .int .u64 (pI (z 3))] 34) = W3 at HA k3 ⊢
  clear hW
  go_loopw [6] (fun a wr => ∃ (v : Value) (cs : List Int), v = a ∧ U9.Own wr W3.heap.size v (cs.map pI) ∧ Hid (Cst z cs) ∧ Kp W3 wr) (fun a _ => 4 - slLen a)
  case atStart => exact ⟨_, [], rfl, U9.Own.nil _ _, Cst.nil z, Kp.refl _⟩
  case round =>
    obtain ⟨v, cs, rfl, hown, HC, hkp⟩ := hrel
    obtain ⟨p, cp, hv, harr, hcap⟩ := hown.arr
    rw [List.length_map] at hv hcap
    obtain ⟨K, hK⟩ : ∃ K, K = cs.length := ⟨_, rfl⟩
    rw [← hK] at hv hcap
    subst hv
    by_cases hl : K < 4
    case neg =>
      have hcut : Cut z cs := HC.out.four (by omega)
      have hO2 := hown.mono k3.size
      have hK9 := Kp.trans k3 hkp
      clear HC HZ hK harr hcap HA hown
      go_wp2
      exact bodyPost_ret (v := .slice p K cp) (by simp [results, Try.results104, go_sem] <;> simp only [*]) rfl ⟨_, cs, rfl, hO2, hcut, hK9⟩
    case pos =>
    have HK : Hid (K = cs.length) := hK
    have HO : Hid (U9.Own wr W3.heap.size (.slice p K cp) (cs.map pI)) := hown
    have HR : Hid (U9.Arr wr p (cs.map pI)) := harr
    have HL := HA
    clear hK hown harr
    obtain ⟨wo, hwo⟩ : ∃ wo, wo = wr := ⟨_, rfl⟩
    subst hwo
    go_wp2
    go_loopw [7, 8, 9] (fun b f i wq => ∃ (bi : Nat) (fd : Bool) (k : Nat), b = .int .i64 bi ∧ f = .bool fd ∧ i = .int .i64 k ∧ k ≤ 4 ∧ bi < 4 ∧ Hid (Inn z cs bi fd k) ∧ Kp wo wq) (fun _ _ i _ => 4 - (intOf i).toNat)
    case atStart => exact ⟨0, false, 0, rfl, rfl, rfl, by omega, by omega, ⟨fun _ j hj => by omega, fun h => by cases h⟩, Kp.refl _⟩
    case round =>
      obtain ⟨bi, fd, k, rfl, rfl, rfl, hk, hbi, HI, hkq⟩ := hrel
      have hz := HZ.out
      have hinn := HI.out
      have hcst := HC.out
      have hk9 := Kp.trans hkp hkq
      by_cases hk4 : k < 4
      case pos =>
        have e1 := kkeep hk9 (HL.out k hk4)
        have hI := isinf9_ (z k) (hz k hk4)
        by_cases c1 : z k = 9218868437227405312 ∨ z k = -9218868437227405312
        · rw [decide_eq_true c1] at hI
          have hN := hinn.skip (k := k) (fun h => by unfold Cand Fin9 at h; omega)
          clear c1 hinn hz hcst HK HO HR HL HC HZ HI hk9
          go_wp2
          refine Fq.wp_region_grow (by kernel_rfl) (by kernel_rfl) (fun ι _ G hG hall => ?_)
          have cc0 : ∀ n, (G n).cell? ⟨w.heap.size + 2, k, none⟩ = some (.int .u64 (pI (z k))) := fun n => Fq.gkeep (hG n) e1
          repeat (go_big_quiet_step (first | (go_at_call 68; exact (hI _).mono (fun e w' h => ⟨h.1, hall _ (by rw [h.2]; exact hG _)⟩))))
          refine wpQuiet_nil ?_
          rintro _ ⟨nq, rfl⟩
          have gq : Kp wr (G nq) := hG nq
          clear cc0 hall hG
          go_wp2
          exact ⟨⟨bi, fd, k + 1, rfl, rfl, by go_num, by omega, by omega, hN, Kp.trans hkq gq⟩, by simp [intOf]; omega⟩
        rw [decide_eq_false c1] at hI
        rcases Nat.eq_zero_or_pos K with hK0 | hK0
        · have hcd : Cand z cs k := ⟨by unfold Fin9; omega, Or.inl (by have := HK.out; omega)⟩
          clear c1
          subst hK0
          go_wp2
          refine Fq.wp_region_grow (by kernel_rfl) (by kernel_rfl) (fun ι _ G hG hall => ?_)
          have cc0 : ∀ n, (G n).cell? ⟨w.heap.size + 2, k, none⟩ = some (.int .u64 (pI (z k))) := fun n => Fq.gkeep (hG n) e1
          repeat (go_big_quiet_step (first | (go_at_call 68; exact (hI _).mono (fun e w' h => ⟨h.1, hall _ (by rw [h.2]; exact hG _)⟩))))
          refine wpQuiet_nil ?_
          rintro _ ⟨nq, rfl⟩
          have gq : Kp wr (G nq) := hG nq
          clear cc0 hall hG
          go_wp2_with fail
          replace hkq := Kp.trans hkq gq
          generalize G nq = wr at hkq ⊢
          clear gq e1 hI
          have hk9 := Kp.trans hkp hkq
          have e2 := kkeep hk9 (HL.out k hk4)
          have e3 := kkeep hk9 (HL.out bi hbi)
          have hA2 := rabove9_ (z bi) (z k) (hz bi hbi) (hz k hk4)
          cases fd
          · have hN := hinn.setF hcd
            clear hinn hcd hA2 hz hcst HK HO HR HL HC HZ HI hk9
            go_wp2
            refine Fq.wp_region_grow (by kernel_rfl) (by kernel_rfl) (fun ι _ G hG hall => ?_)
            have cc0 : ∀ n, (G n).cell? ⟨w.heap.size + 2, k, none⟩ = some (.int .u64 (pI (z k))) := fun n => Fq.gkeep (hG n) e2
            repeat (go_big_quiet_step (first | fail))
            refine wpQuiet_nil ?_
            rintro _ ⟨nq, rfl⟩
            have gq : Kp wr (G nq) := hG nq
            clear cc0 hall hG
            go_wp2
            exact ⟨⟨k, true, k + 1, by go_num, rfl, by go_num, by omega, by omega, hN, Kp.trans hkq gq⟩, by simp [intOf]; omega⟩
          · by_cases c5 : z k < z bi
            · rw [decide_eq_true c5] at hA2
              have hN := hinn.setL hcd c5
              clear c5 hinn hcd hz hcst HK HO HR HL HC HZ HI hk9
              go_wp2
              refine Fq.wp_region_grow (by kernel_rfl) (by kernel_rfl) (fun ι _ G hG hall => ?_)
              have cc0 : ∀ n, (G n).cell? ⟨w.heap.size + 2, k, none⟩ = some (.int .u64 (pI (z k))) := fun n => Fq.gkeep (hG n) e2
              have cc1 : ∀ n, (G n).cell? ⟨w.heap.size + 2, bi, none⟩ = some (.int .u64 (pI (z bi))) := fun n => Fq.gkeep (hG n) e3
              repeat (go_big_quiet_step (first | (go_at_call 51; exact (hA2 _).mono (fun e w' h => ⟨h.1, hall _ (by rw [h.2]; exact hG _)⟩))))
              refine wpQuiet_nil ?_
              rintro _ ⟨nq, rfl⟩
              have gq : Kp wr (G nq) := hG nq
              clear cc0 cc1 hall hG
              go_wp2
              exact ⟨⟨k, true, k + 1, by go_num, rfl, by go_num, by omega, by omega, hN, Kp.trans hkq gq⟩, by simp [intOf]; omega⟩
            · rw [decide_eq_false c5] at hA2
              have hN := hinn.keepT c5
              clear c5 hinn hcd hz hcst HK HO HR HL HC HZ HI hk9
              go_wp2
              refine Fq.wp_region_grow (by kernel_rfl) (by kernel_rfl) (fun ι _ G hG hall => ?_)
              have cc0 : ∀ n, (G n).cell? ⟨w.heap.size + 2, k, none⟩ = some (.int .u64 (pI (z k))) := fun n => Fq.gkeep (hG n) e2
              have cc1 : ∀ n, (G n).cell? ⟨w.heap.size + 2, bi, none⟩ = some (.int .u64 (pI (z bi))) := fun n => Fq.gkeep (hG n) e3
              repeat (go_big_quiet_step (first | (go_at_call 51; exact (hA2 _).mono (fun e w' h => ⟨h.1, hall _ (by rw [h.2]; exact hG _)⟩))))
              refine wpQuiet_nil ?_
              rintro _ ⟨nq, rfl⟩
              have gq : Kp wr (G nq) := hG nq
              clear cc0 cc1 hall hG
              go_wp2
              exact ⟨⟨bi, true, k + 1, rfl, rfl, by go_num, by omega, by omega, hN, Kp.trans hkq gq⟩, by simp [intOf]; omega⟩
        · obtain ⟨K', rfl⟩ : ∃ K', K = K' + 1 := ⟨K - 1, by omega⟩
          have hKe := HK.out
          obtain ⟨b, off, rfl, hc'⟩ := HR.out.at (k := K') (by simp; omega)
          have e9 := kkeep hkq (hc' K' (by simp; omega))
          have hX : (cs.map pI).getD K' 0 = pI (cs.getD K' 0) := by simp [List.getD, show K' < cs.length from by omega]
          rw [hX] at e9
          obtain ⟨jl, jl4, jle, _⟩ := hcst.2.2.1 K' (by omega)
          have hA := rabove9_ (z k) (cs.getD K' 0) (hz k hk4) (by rw [jle]; exact hz jl jl4)
          obtain ⟨la, hla⟩ : ∃ la, la = cs.getD K' 0 := ⟨_, rfl⟩
          rw [← hla] at e9 hA
          have hiff : Cand z cs k ↔ la < z k := by
            unfold Cand Fin9
            rw [show cs.length - 1 = K' from by omega, ← hla]
            constructor
            · intro h; omega
            · intro h; exact ⟨by omega, Or.inr h⟩
          clear hX hc' jle jl4 hla hKe c1
          by_cases c2 : la < z k
          · rw [decide_eq_true c2] at hA
            have hcd := hiff.2 c2
            clear c2 hiff
            go_wp2
            refine Fq.wp_region_grow (by kernel_rfl) (by kernel_rfl) (fun ι _ G hG hall => ?_)
            have cc0 : ∀ n, (G n).cell? ⟨w.heap.size + 2, k, none⟩ = some (.int .u64 (pI (z k))) := fun n => Fq.gkeep (hG n) e1
            have cc1 : ∀ n, (G n).cell? ⟨b, off + K', none⟩ = some (.int .u64 (pI la)) := fun n => Fq.gkeep (hG n) e9
            repeat (go_big_quiet_step (first | (go_at_call 68; exact (hI _).mono (fun e w' h => ⟨h.1, hall _ (by rw [h.2]; exact hG _)⟩)) | (go_at_call 51; exact (hA _).mono (fun e w' h => ⟨h.1, hall _ (by rw [h.2]; exact hG _)⟩))))
            refine wpQuiet_nil ?_
            rintro _ ⟨nq, rfl⟩
            have gq : Kp wr (G nq) := hG nq
            clear cc0 cc1 hall hG
            go_wp2_with fail
            clear e9 hA
            replace hkq := Kp.trans hkq gq
            generalize G nq = wr at hkq ⊢
            clear gq e1 hI
            have hk9 := Kp.trans hkp hkq
            have e2 := kkeep hk9 (HL.out k hk4)
            have e3 := kkeep hk9 (HL.out bi hbi)
            have hA2 := rabove9_ (z bi) (z k) (hz bi hbi) (hz k hk4)
            cases fd
            · have hN := hinn.setF hcd
              clear hinn hcd hA2 hz hcst HK HO HR HL HC HZ HI hk9
              go_wp2
              refine Fq.wp_region_grow (by kernel_rfl) (by kernel_rfl) (fun ι _ G hG hall => ?_)
              have cc0 : ∀ n, (G n).cell? ⟨w.heap.size + 2, k, none⟩ = some (.int .u64 (pI (z k))) := fun n => Fq.gkeep (hG n) e2
              repeat (go_big_quiet_step (first | fail))
              refine wpQuiet_nil ?_
              rintro _ ⟨nq, rfl⟩
              have gq : Kp wr (G nq) := hG nq
              clear cc0 hall hG
              go_wp2
              exact ⟨⟨k, true, k + 1, by go_num, rfl, by go_num, by omega, by omega, hN, Kp.trans hkq gq⟩, by simp [intOf]; omega⟩
            · by_cases c5 : z k < z bi
              · rw [decide_eq_true c5] at hA2
                have hN := hinn.setL hcd c5
                clear c5 hinn hcd hz hcst HK HO HR HL HC HZ HI hk9
                go_wp2
                refine Fq.wp_region_grow (by kernel_rfl) (by kernel_rfl) (fun ι _ G hG hall => ?_)
                have cc0 : ∀ n, (G n).cell? ⟨w.heap.size + 2, k, none⟩ = some (.int .u64 (pI (z k))) := fun n => Fq.gkeep (hG n) e2
                have cc1 : ∀ n, (G n).cell? ⟨w.heap.size + 2, bi, none⟩ = some (.int .u64 (pI (z bi))) := fun n => Fq.gkeep (hG n) e3
                repeat (go_big_quiet_step (first | (go_at_call 51; exact (hA2 _).mono (fun e w' h => ⟨h.1, hall _ (by rw [h.2]; exact hG _)⟩))))
                refine wpQuiet_nil ?_
                rintro _ ⟨nq, rfl⟩
                have gq : Kp wr (G nq) := hG nq
                clear cc0 cc1 hall hG
                go_wp2
                exact ⟨⟨k, true, k + 1, by go_num, rfl, by go_num, by omega, by omega, hN, Kp.trans hkq gq⟩, by simp [intOf]; omega⟩
              · rw [decide_eq_false c5] at hA2
                have hN := hinn.keepT c5
                clear c5 hinn hcd hz hcst HK HO HR HL HC HZ HI hk9
                go_wp2
                refine Fq.wp_region_grow (by kernel_rfl) (by kernel_rfl) (fun ι _ G hG hall => ?_)
                have cc0 : ∀ n, (G n).cell? ⟨w.heap.size + 2, k, none⟩ = some (.int .u64 (pI (z k))) := fun n => Fq.gkeep (hG n) e2
                have cc1 : ∀ n, (G n).cell? ⟨w.heap.size + 2, bi, none⟩ = some (.int .u64 (pI (z bi))) := fun n => Fq.gkeep (hG n) e3
                repeat (go_big_quiet_step (first | (go_at_call 51; exact (hA2 _).mono (fun e w' h => ⟨h.1, hall _ (by rw [h.2]; exact hG _)⟩))))
                refine wpQuiet_nil ?_
                rintro _ ⟨nq, rfl⟩
                have gq : Kp wr (G nq) := hG nq
                clear cc0 cc1 hall hG
                go_wp2
                exact ⟨⟨bi, true, k + 1, rfl, rfl, by go_num, by omega, by omega, hN, Kp.trans hkq gq⟩, by simp [intOf]; omega⟩
          · rw [decide_eq_false c2] at hA
            have hN := hinn.skip (k := k) (fun h => c2 (hiff.1 h))
            clear c2 hiff hinn hz hcst HK HO HR HL HC HZ HI hk9
            go_wp2
            refine Fq.wp_region_grow (by kernel_rfl) (by kernel_rfl) (fun ι _ G hG hall => ?_)
            have cc0 : ∀ n, (G n).cell? ⟨w.heap.size + 2, k, none⟩ = some (.int .u64 (pI (z k))) := fun n => Fq.gkeep (hG n) e1
            have cc1 : ∀ n, (G n).cell? ⟨b, off + K', none⟩ = some (.int .u64 (pI la)) := fun n => Fq.gkeep (hG n) e9
            repeat (go_big_quiet_step (first | (go_at_call 68; exact (hI _).mono (fun e w' h => ⟨h.1, hall _ (by rw [h.2]; exact hG _)⟩)) | (go_at_call 51; exact (hA _).mono (fun e w' h => ⟨h.1, hall _ (by rw [h.2]; exact hG _)⟩))))
            refine wpQuiet_nil ?_
            rintro _ ⟨nq, rfl⟩
            have gq : Kp wr (G nq) := hG nq
            clear cc0 cc1 hall hG
            go_wp2
            exact ⟨⟨bi, fd, k + 1, rfl, rfl, by go_num, by omega, by omega, hN, Kp.trans hkq gq⟩, by simp [intOf]; omega⟩
      case neg =>
        obtain rfl : k = 4 := by omega
        cases fd
        · have hcut : Cut z cs := hcst.done (fun j hj => hinn.1 rfl j hj)
          have hO2 := (HO.out.kp hkq).mono k3.size
          have hK9 := Kp.trans k3 hk9
          clear HC HZ HK HO HR HL HA hinn hz hcst hk9 HI
          go_wp2
          exact bodyPost_ret (v := .slice p K cp) (by simp [results, Try.results104, go_sem] <;> simp only [*]) rfl ⟨_, cs, rfl, hO2, hcut, hK9⟩
        · have hcd := hinn.2 rfl
          have hst := hcst.step (by have := HK.out; omega) hbi hcd.1 (fun j hj hc => hcd.2 j hj hc)
          have hown := HO.out.kp hkq
          have hob := U9.own_block hown
          have hKe := HK.out
          have hlen : (cs.map pI).length = K := by rw [List.length_map]; omega
          have hown' : wr.ownsRow W3.heap.size 34 1 (.slice p K cp) ((cs.map pI).length) ((cs.map pI).map (Value.int .u64)) := hown
          have e3 := kkeep hk9 (HL.out bi hbi)
          obtain ⟨Y, hY⟩ : ∃ Y, Y = pI (z bi) := ⟨_, rfl⟩
          rw [← hY] at e3
          have HY : Hid (Y = pI (z bi)) := hY
          have HST : Hid (Cst z (cs ++ [z bi])) := hst
          have HLE : Hid ((cs.map pI).length = K) := hlen
          clear HC HZ HK HO HR HL HA hinn hz hcst hcd hst hown hKe hlen hY HI hk
          go_wp2_with (first | (at_builtin; refine wpList_append_own _ rfl _ _ 142 rfl W3.heap.size 34 i0 (.int .u64 0) 1 8 Try.underlying142 hi0 hi1 hi2 hi3 rfl (by decide) _ _ _ rfl (hown'.alloc _) ⟨wr.heap.size, 0, none⟩ 1 1 [.int .u64 Y] rfl rfl ?c1 ?c2 ?c3 ?c4 ?c5 ?_))
          case c1 =>
            intro j' u hj'
            match j', hj' with
            | 0, hj' => simp at hj'; subst hj'; simp [Addr.add]
          case c2 => intro u hu; simp at hu; subst hu; rfl
          case c3 => have := HLE.out; rw [List.length_map] at this; unfold maxLen; simp; omega
          case c4 => have := HLE.out; simp at this ⊢; omega
          case c5 => have := hk9.size; simp; omega
          intro v' w1 hown2 hgrow _
          have hO : U9.Own w1 W3.heap.size v' ((cs ++ [z bi]).map pI) := by
            have hy := HY.out
            rw [hy] at hown2
            unfold U9.Own
            simpa using hown2
          have hK2 : Kp W3 w1 := (hk9.alloc _).grown hgrow hob
          have hLN : slLen v' = K + 1 := by
            obtain ⟨p', c', h1, _⟩ := hO.arr
            rw [h1]
            have := HLE.out
            simp at this
            simp [slLen, this]
          clear hown2 hgrow hown' hkp hob e3 HY HLE
          go_wp2
          exact ⟨⟨_, cs ++ [z bi], rfl, hO, HST.out, hK2⟩, by rw [hLN]; simp [slLen]; omega⟩
end Go.Proofs.Ytjkbapnndoldgaa
