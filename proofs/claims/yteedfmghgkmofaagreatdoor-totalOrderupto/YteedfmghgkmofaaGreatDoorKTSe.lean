import Derived.Test.YteedfmghgkmofaaGreatDoorKTSd
namespace Go.Proofs.YteedfmghgkmofaaGreatDoor
open Go.RowKit
set_option linter.unusedVariables false
set_option maxRecDepth 20000 in
set_option maxHeartbeats 8000000 in
theorem torderB_ (K : Nat) (hK : K = 1074) (p : Option Addr) (c : Nat) (L : List Tm) (hok : TmOk L) (h3 : ¬ 3000 < L.length) (nn : Int) (hnn : nn < 9223372036854775808) (w : World) (ha : ArrT w p L) (hT : Tab w) (hQ : Fq.Tab w) : Calls Tryz.prog 5 #[.slice p L.length c, .int .i64 nn] w fun e w' => e = .returned (.bool true) ∧ Kp w w' := by
  have hlv := lives_ w hT hQ
  obtain ⟨N, hN⟩ : ∃ N, N = L.length := ⟨_, rfl⟩
  rw [← hN] at h3 ⊢
  have j9 : ¬ ((3000 : Int) < (N : Int)) := by omega
  have HN : Hid (N = L.length ∧ ArrT w p L ∧ TmOk L ∧ K = 1074 ∧ Tab w ∧ Fq.Tab w ∧ N ≤ N ∧ N ≤ 3000 ∧ nn < 9223372036854775808) := ⟨hN, ha, hok, hK, hT, hQ, by omega, by omega, hnn⟩
  clear hN ha hok hK hT hQ h3 hnn
  go_enter Tryz.func5, Tryz.ntmps5
  go_wp2_with fail
  refine hlv.mono ?_
  rintro e wa ⟨rfl, ga⟩
  go_wp2_with fail
  refine (newS_ _).mono ?_
  rintro e wb ⟨rfl, F0, gb⟩
  have hk : Kp w wb := ga.trans gb
  have d6 : w.heap.size ≤ wa.heap.size := ga.size
  clear ga gb hlv
  generalize wa.heap.size = bs at *
  go_wp2_with fail
  refine (newS_ _).mono ?_
  rintro e wc_ ⟨rfl, F1, gc⟩
  have d1 : bs < wb.heap.size := F0.lt
  replace F0 := F0.kp gc
  replace hk := hk.trans gc
  clear gc
  generalize wb.heap.size = bb at *
  have d2 : bb < wc_.heap.size := F1.lt
  have hr0 : (wc_.alloc (.cells #[.pointer none, .pointer none, .pointer none] 65)).rowIs wc_.heap.size 65 3 (fun _ => .pointer none) := World.rowIs_alloc wc_ #[.pointer none, .pointer none, .pointer none] 65 (fun _ => .pointer none) (fun i hi => by
    have hi : i < 3 := hi
    have : i = 0 ∨ i = 1 ∨ i = 2 := by omega
    rcases this with rfl | rfl | rfl <;> rfl)
  have HS : Hid (Sn (wc_.alloc (.cells #[.pointer none, .pointer none, .pointer none] 65)) bs 0 0 0 ∧ Sn (wc_.alloc (.cells #[.pointer none, .pointer none, .pointer none] 65)) bb 0 0 0 ∧ (wc_.alloc (.cells #[.pointer none, .pointer none, .pointer none] 65)).rowIs wc_.heap.size 65 3 (fun _ => .pointer none) ∧ Kp w (wc_.alloc (.cells #[.pointer none, .pointer none, .pointer none] 65))) := ⟨F0.kp ((Kp.refl _).alloc _), F1.kp ((Kp.refl _).alloc _), hr0, hk.alloc _⟩
  have HD : Hid (bs < bb ∧ bb < wc_.heap.size ∧ w.heap.size ≤ bs) := ⟨d1, d2, d6⟩
  clear F0 F1 hr0 hk d1 d2 d6
  go_wp2_with fail
  generalize wc_.alloc (.cells #[.pointer none, .pointer none, .pointer none] 65) = wd at *
  generalize wc_.heap.size = bp at *
  go_loopw [8] (fun ii wr => ∃ (i : Nat) (P : Nat → Nat), ii = .int .i64 (i : Int) ∧ i ≤ 3 ∧ wr.rowIs bp 65 3 (fun j => .pointer (if j < i then some ⟨P j, 0, none⟩ else none)) ∧ (∀ j, j < i → Sn wr (P j) 0 0 0 ∧ bp < P j) ∧ (∀ j j', j < j' → j' < i → P j < P j') ∧ Sn wr bs 0 0 0 ∧ Sn wr bb 0 0 0 ∧ Kp w wr) (fun i _ => 3 - (intOf i).toNat)
  case atStart => exact ⟨0, fun _ => 0, rfl, by omega, World.rowIs.congr HS.out.2.2.1 (fun j _ => by simp), fun j hj => by omega, fun j j' _ h => by omega, HS.out.1, HS.out.2.1, HS.out.2.2.2⟩
  case round =>
    obtain ⟨i, P, rfl, hi, hrow, hP, hord, hA, hB, hk⟩ := hrel
    clear HS
    by_cases ci : i < 3
    · have j1 : (i : Int) < 3 := by omega
      have j2 : i + 1 ≤ 3 := by omega
      have j3 : 3 - (i + 1) < 3 - i := by omega
      have HV : Hid (wr.rowIs bp 65 3 (fun j => .pointer (if j < i then some ⟨P j, 0, none⟩ else none)) ∧ (∀ j, j < i → Sn wr (P j) 0 0 0 ∧ bp < P j) ∧ (∀ j j', j < j' → j' < i → P j < P j') ∧ Sn wr bs 0 0 0 ∧ Sn wr bb 0 0 0 ∧ Kp w wr ∧ i < 3) := ⟨hrow, hP, hord, hA, hB, hk, ci⟩
      clear hrow hP hord hA hB hk hi ci
      go_wp2_with fail
      refine (newS_ _).mono ?_
      rintro e w1 ⟨rfl, hN1, g⟩
      obtain ⟨hrow, hP, hord, hA, hB, hk, ci⟩ := HV.out
      obtain ⟨d1, d2, d6⟩ := HD.out
      have hbw : bp < wr.heap.size := World.rowIs.lt hrow
      have hPw : ∀ j, j < i → P j < wr.heap.size := fun j hj => (hP j hj).1.lt
      replace hrow := World.rowIs.of_block hrow (Below.block g bp (World.rowIs.lt hrow))
      have c0 := World.rowIs.cell hrow ci
      have c1 := World.rowIs.frozen hrow i
      have hst := World.rowIs.set hrow i (.pointer (some ⟨wr.heap.size, 0, none⟩))
      have kb : Kb bp w1 (w1.setCell ⟨bp, i, none⟩ (.pointer (some ⟨wr.heap.size, 0, none⟩))) := (Kb.refl bp w1).setCell i _
      have HW : Hid ((w1.setCell ⟨bp, i, none⟩ (.pointer (some ⟨wr.heap.size, 0, none⟩))).rowIs bp 65 3 (fun j => .pointer (if j < i + 1 then some ⟨(if j = i then wr.heap.size else P j), 0, none⟩ else none)) ∧ (∀ j, j < i + 1 → Sn (w1.setCell ⟨bp, i, none⟩ (.pointer (some ⟨wr.heap.size, 0, none⟩))) (if j = i then wr.heap.size else P j) 0 0 0 ∧ bp < (if j = i then wr.heap.size else P j)) ∧ (∀ j j', j < j' → j' < i + 1 → (if j = i then wr.heap.size else P j) < (if j' = i then wr.heap.size else P j')) ∧ Sn (w1.setCell ⟨bp, i, none⟩ (.pointer (some ⟨wr.heap.size, 0, none⟩))) bs 0 0 0 ∧ Sn (w1.setCell ⟨bp, i, none⟩ (.pointer (some ⟨wr.heap.size, 0, none⟩))) bb 0 0 0 ∧ Kp w (w1.setCell ⟨bp, i, none⟩ (.pointer (some ⟨wr.heap.size, 0, none⟩)))) := by
        refine ⟨World.rowIs.congr hst (fun j _ => ?_), fun j hj => ?_, fun j j' hjj hj' => ?_, (hA.kp g).kb kb (by omega), (hB.kp g).kb kb (by omega), kb.kp (hk.trans g) (by omega)⟩
        · by_cases c : j = i
          · rw [if_pos c, if_pos (by omega), if_pos c]
          · rw [if_neg c, if_neg c]
            by_cases c2 : j < i
            · rw [if_pos c2, if_pos (by omega)]
            · rw [if_neg c2, if_neg (by omega)]
        · by_cases c : j = i
          · rw [if_pos c]; exact ⟨hN1.kb kb (by omega), hbw⟩
          · rw [if_neg c]
            have hj2 : j < i := by omega
            exact ⟨((hP j hj2).1.kp g).kb kb (by have := (hP j hj2).2; omega), (hP j hj2).2⟩
        · rw [if_neg (by omega)]
          by_cases c : j' = i
          · rw [if_pos c]; exact hPw j (by omega)
          · rw [if_neg c]; exact hord j j' hjj (by omega)
      clear hrow hP hord hA hB hk hst kb hN1 g HV hPw d1 d2 d6 hbw
      go_wp2
      exact ⟨⟨i + 1, fun j => if j = i then wr.heap.size else P j, by go_num, j2, HW.out.1, HW.out.2.1, HW.out.2.2.1, HW.out.2.2.2.1, HW.out.2.2.2.2.1, HW.out.2.2.2.2.2⟩, (show 3 - (i + 1) < 3 - i from j3)⟩
    · have hi3 : i = 3 := by omega
      subst hi3
      have t1 : ¬ (((3 : Nat) : Int) < 3) := by omega
      obtain ⟨d1, d2, d6⟩ := HD.out
      have q0 := hord 0 1 (by decide) (by decide)
      have q1 := hord 1 2 (by decide) (by decide)
      have q2 := (hP 0 (by decide)).2
      clear HD
      have HD : Hid (bs < bb ∧ bb < bp ∧ bp < P 0 ∧ P 0 < P 1 ∧ P 1 < P 2 ∧ w.heap.size ≤ bs) := ⟨d1, d2, q2, q0, q1, d6⟩
      have hrow2 : wr.rowIs bp 65 3 (fun j => .pointer (some ⟨P j, 0, none⟩)) := World.rowIs.congr hrow (fun j hj => by rw [if_pos hj])
      have HS : Hid (Sn wr bs (aV K L 0) (aS L 0) 0 ∧ Sn wr bb (bV K L N 0) (bS L N 0) 0 ∧ (∀ j, j < 3 → Sn wr (P j) (pV K L j 0) (pS L j 0) 0) ∧ wr.rowIs bp 65 3 (fun j => .pointer (some ⟨P j, 0, none⟩)) ∧ Kp w wr) := ⟨hA, hB, fun j hj => (hP j hj).1, hrow2, hk⟩
      clear hrow hP hord hA hB hk hi ci q0 q1 q2 d1 d2 d6 hrow2
      go_wp2_with fail
      go_loopw [10] (fun ii wr => ∃ i : Nat, ii = .int .i64 (i : Int) ∧ i ≤ N ∧ Sn wr bs (aV K L i) (aS L i) i ∧ Sn wr bb (bV K L N i) (bS L N i) i ∧ (∀ j, j < 3 → Sn wr (P j) (pV K L j i) (pS L j i) i) ∧ wr.rowIs bp 65 3 (fun j => .pointer (some ⟨P j, 0, none⟩)) ∧ Kp w wr) (fun i _ => N - (intOf i).toNat)
      case atStart => exact ⟨0, rfl, Nat.zero_le _, HS.out.1, HS.out.2.1, HS.out.2.2.1, HS.out.2.2.2.1, HS.out.2.2.2.2⟩
      case round =>
        obtain ⟨i, rfl, hi, hA, hB, hP, hrow, hk⟩ := hrel
        clear HS
        by_cases ci : i < N
        · obtain ⟨hN, ha, hok, hK, hT, hQ, hkN, hk3, hnn⟩ := HN.out
          obtain ⟨d1, d2, d3, d4, d5, d6⟩ := HD.out
          obtain ⟨m, hm⟩ : ∃ m, m = N - 1 - i := ⟨_, rfl⟩
          obtain ⟨r, hr⟩ : ∃ r, r = i % 3 := ⟨_, rfl⟩
          have hok1 := hok i (by omega)
          have hok2 := hok m (by omega)
          rcases ha with ha | ⟨bl, off, rfl, ha⟩
          · rw [ha] at hN; simp at hN; omega
          obtain ⟨e0, e1, e2⟩ := ha i (by omega)
          obtain ⟨f0, f1, f2⟩ := ha m (by omega)
          have hbl : bl < w.heap.size := cell_lt e0
          obtain ⟨t, ht⟩ : ∃ t, t = L.getD i (0, 0, false) := ⟨_, rfl⟩
          obtain ⟨u, hu⟩ : ∃ u, u = L.getD m (0, 0, false) := ⟨_, rfl⟩
          rw [← ht] at e0 e1 e2 hok1
          rw [← hu] at f0 f1 f2 hok2
          have ea : aV K L (i + 1) = aV K L i + tmV K t := by rw [ht]; rfl
          have eas : aS L (i + 1) = jn (aS L i) (tmS t) := by rw [ht]; rfl
          have eb : bV K L N (i + 1) = bV K L N i + tmV K u := by rw [hu, hm]; rfl
          have ebs : bS L N (i + 1) = jn (bS L N i) (tmS u) := by rw [hu, hm]; rfl
          have ep : ∀ j, j < 3 → j ≠ r → pV K L j (i + 1) = pV K L j i ∧ pS L j (i + 1) = pS L j i := fun j hj hne => by
            simp only [pV, pS]
            rw [if_neg (by omega), if_neg (by omega)]; exact ⟨rfl, rfl⟩
          have er : pV K L r (i + 1) = pV K L r i + tmV K t ∧ pS L r (i + 1) = jn (pS L r i) (tmS t) := by
            simp only [pV, pS]
            rw [if_pos hr.symm, if_pos hr.symm, ht]; exact ⟨rfl, rfl⟩
          have hr3 : r < 3 := by omega
          have hPr : bp < P r ∧ P r ≠ bs ∧ P r ≠ bb ∧ P r ≠ bp := by
            have : r = 0 ∨ r = 1 ∨ r = 2 := by omega
            rcases this with h | h | h <;> rw [h] <;> omega
          have hPne : ∀ j, j < 3 → j ≠ r → P j ≠ P r := fun j hj hne => by
            have h1 : j = 0 ∨ j = 1 ∨ j = 2 := by omega
            have h2 : r = 0 ∨ r = 1 ∨ r = 2 := by omega
            rcases h1 with rfl | rfl | rfl <;> rcases h2 with h2 | h2 | h2 <;> rw [h2] at hne ⊢ <;> omega
          have hPgt : ∀ j, j < 3 → bp < P j := fun j hj => by
            have h1 : j = 0 ∨ j = 1 ∨ j = 2 := by omega
            rcases h1 with rfl | rfl | rfl <;> omega
          have ht1 := takeS_ t hok1 K hK bs _ _ i (by omega) wr hA
          rw [← ea, ← eas] at ht1
          have e0' := kkeep hk e0
          have e1' := kkeep hk e1
          have e2' := kkeep hk e2
          have hw1 : IntKind.i64.wrap ((N : Int) - 1) = (N : Int) - 1 := by rw [IntKind.wrap_i64]; omega
          have hw2 : IntKind.i64.wrap ((N : Int) - 1 - (i : Int)) = (m : Int) := by rw [IntKind.wrap_i64]; omega
          have hw3 : wrap64 ((N : Int) - 1) = (N : Int) - 1 := w64x _ (by omega) (by omega)
          have hw4 : wrap64 ((N : Int) - 1 - (i : Int)) = (m : Int) := by rw [w64x _ (by omega) (by omega)]; omega
          have hmI : (N : Int) - 1 - (i : Int) = (m : Int) := by omega
          have hmr : (i : Int).tmod 3 = (r : Int) := by rw [Int.tmod_eq_emod_of_nonneg (by omega)]; omega
          have hmr2 : (i : Int) % 3 = (r : Int) := by omega
          have j1 : (i : Int) < (N : Int) := by omega
          have j2 : i + 1 ≤ N := by omega
          have j3 : N - (i + 1) < N - i := by omega
          have j4 : i < N := by omega
          have j5 : (i : Int) < (N : Int) := by omega
          have j6 : (m : Int) < (N : Int) := by omega
          have j7 : (r : Int) < 3 := by omega
          have j8 : i < 3000 := by omega
          have HX : Hid (i + 1 ≤ N ∧ K = 1074 ∧ bl < w.heap.size ∧ bs < bb ∧ bb < bp ∧ w.heap.size ≤ bs ∧ i < 3000 ∧ r < 3 ∧ (bp < P r ∧ P r ≠ bs ∧ P r ≠ bb ∧ P r ≠ bp) ∧ (∀ j, j < 3 → j ≠ r → P j ≠ P r) ∧ (∀ j, j < 3 → bp < P j) ∧ (t.1 < 18446744073709551616 ∧ t.2.1 < 18446744073709551616) ∧ (u.1 < 18446744073709551616 ∧ u.2.1 < 18446744073709551616)) := ⟨j2, hK, hbl, d1, d2, d6, j8, hr3, hPr, hPne, hPgt, hok1, hok2⟩
          have HC : Hid (w.cell? ⟨bl, off + i * 3, none⟩ = some (.int .u64 ((t.1 : Nat) : Int)) ∧ w.cell? ⟨bl, off + i * 3 + 1, none⟩ = some (.int .u64 ((t.2.1 : Nat) : Int)) ∧ w.cell? ⟨bl, off + i * 3 + 2, none⟩ = some (.bool t.2.2) ∧ w.cell? ⟨bl, off + m * 3, none⟩ = some (.int .u64 ((u.1 : Nat) : Int)) ∧ w.cell? ⟨bl, off + m * 3 + 1, none⟩ = some (.int .u64 ((u.2.1 : Nat) : Int)) ∧ w.cell? ⟨bl, off + m * 3 + 2, none⟩ = some (.bool u.2.2)) := ⟨e0, e1, e2, f0, f1, f2⟩
          have HE : Hid ((bV K L N (i + 1) = bV K L N i + tmV K u) ∧ (bS L N (i + 1) = jn (bS L N i) (tmS u)) ∧ (∀ j, j < 3 → j ≠ r → pV K L j (i + 1) = pV K L j i ∧ pS L j (i + 1) = pS L j i) ∧ (pV K L r (i + 1) = pV K L r i + tmV K t ∧ pS L r (i + 1) = jn (pS L r i) (tmS t))) := ⟨eb, ebs, ep, er⟩
          have HV : Hid (Sn wr bb (bV K L N i) (bS L N i) i ∧ (∀ j, j < 3 → Sn wr (P j) (pV K L j i) (pS L j i) i) ∧ wr.rowIs bp 65 3 (fun j => .pointer (some ⟨P j, 0, none⟩)) ∧ Kp w wr) := ⟨hB, hP, hrow, hk⟩
          clear hN ha hok hK hT hQ hkN hk3 hnn d1 d2 d3 d4 d5 d6 hok1 hok2 e0 e1 e2 f0 f1 f2 hbl ht hu ea eas eb ebs ep er hPr hPne hPgt hr3 hm hr hi ci hA hB hP hrow hk HD
          go_wp2_with fail
          refine ht1.mono ?_
          rintro e w1 ⟨⟨v1, rfl⟩, hA, kb⟩
          obtain ⟨hB, hP, hrow, hk⟩ := HV.out
          obtain ⟨x1, hK, hbl, d1, d2, d6, x8, hr3, hPr, hPne, hPgt, hok1, hok2⟩ := HX.out
          obtain ⟨e0, e1, e2, f0, f1, f2⟩ := HC.out
          replace hB := hB.kb kb (by omega)
          replace hP := fun j hj => (hP j hj).kb kb (by have := hPgt j hj; omega)
          replace hrow := World.rowIs.of_block hrow (kb.2.2.2.2 bp (World.rowIs.lt hrow) (by omega))
          replace hk := kb.kp hk d6
          have ht2 := takeS_ u hok2 K hK bb _ _ i (by omega) w1 hB
          rw [← HE.out.1, ← HE.out.2.1] at ht2
          have g0 := kkeep hk f0
          have g1 := kkeep hk f1
          have g2 := kkeep hk f2
          clear HV kb ht1 e0' e1' e2'
          have HV : Hid (Sn w1 bs (aV K L (i + 1)) (aS L (i + 1)) (i + 1) ∧ (∀ j, j < 3 → Sn w1 (P j) (pV K L j i) (pS L j i) i) ∧ w1.rowIs bp 65 3 (fun j => .pointer (some ⟨P j, 0, none⟩)) ∧ Kp w w1) := ⟨hA, hP, hrow, hk⟩
          clear hA hB hP hrow hk x1 hK hbl d1 d2 d6 x8 hr3 hPr hPne hPgt hok1 hok2 e0 e1 e2 f0 f1 f2
          go_wp2_with fail
          refine ht2.mono ?_
          rintro e w2 ⟨⟨v2, rfl⟩, hB, kb⟩
          obtain ⟨hA, hP, hrow, hk⟩ := HV.out
          obtain ⟨x1, hK, hbl, d1, d2, d6, x8, hr3, hPr, hPne, hPgt, hok1, hok2⟩ := HX.out
          obtain ⟨e0, e1, e2, f0, f1, f2⟩ := HC.out
          replace hA := hA.kb kb (by omega)
          replace hP := fun j hj => (hP j hj).kb kb (by have := hPgt j hj; omega)
          replace hrow := World.rowIs.of_block hrow (kb.2.2.2.2 bp (World.rowIs.lt hrow) (by omega))
          replace hk := kb.kp hk (by omega)
          have ht3 := takeS_ t hok1 K hK (P r) _ _ i (by omega) w2.drew (show Sn w2.drew (P r) _ _ i from hP r hr3)
          rw [← HE.out.2.2.2.1, ← HE.out.2.2.2.2] at ht3
          have e0 : w2.drew.cell? ⟨bl, off + i * 3, none⟩ = some (.int .u64 ((t.1 : Nat) : Int)) := kkeep hk.drew e0
          have e1 : w2.drew.cell? ⟨bl, off + i * 3 + 1, none⟩ = some (.int .u64 ((t.2.1 : Nat) : Int)) := kkeep hk.drew e1
          have e2 : w2.drew.cell? ⟨bl, off + i * 3 + 2, none⟩ = some (.bool t.2.2) := kkeep hk.drew e2
          have e3 : w2.drew.cell? ⟨bp, r, none⟩ = some (.pointer (some ⟨P r, 0, none⟩)) := World.rowIs.cell hrow hr3
          have hne1 : bl ≠ P r := by omega
          have hne2 : bp ≠ P r := by omega
          clear HV kb ht2 g0 g1 g2
          have HV : Hid (Sn w2 bs (aV K L (i + 1)) (aS L (i + 1)) (i + 1) ∧ Sn w2 bb (bV K L N (i + 1)) (bS L N (i + 1)) (i + 1) ∧ (∀ j, j < 3 → Sn w2 (P j) (pV K L j i) (pS L j i) i) ∧ w2.rowIs bp 65 3 (fun j => .pointer (some ⟨P j, 0, none⟩)) ∧ Kp w w2) := ⟨hA, hB, hP, hrow, hk⟩
          clear hA hB hP hrow hk x1 hK hbl d1 d2 d6 x8 hr3 hPr hPne hPgt hok1 hok2 f0 f1 f2 hw1 hw2 hw3 hw4 hmI
          go_upto_region 18 with fail
          go_region_held3 (fun w' => w'.cell? ⟨bl, off + i * 3, none⟩ = some (.int .u64 ((t.1 : Nat) : Int)) ∧ w'.cell? ⟨bl, off + i * 3 + 1, none⟩ = some (.int .u64 ((t.2.1 : Nat) : Int)) ∧ w'.cell? ⟨bl, off + i * 3 + 2, none⟩ = some (.bool t.2.2) ∧ w'.cell? ⟨bp, r, none⟩ = some (.pointer (some ⟨P r, 0, none⟩))) (first | (with_reducible exact ⟨e0, e1, e2, e3⟩) | (with_reducible exact ⟨c0, c1, c2, c3⟩)) (first | (go_at_call 34; refine ht3.mono ?_; rintro e w3 ⟨⟨v3, rfl⟩, hR3, kb3⟩; have c0 := kb3.arr hne1 e0; have c1 := kb3.arr hne1 e1; have c2 := kb3.arr hne1 e2; have c3 := kb3.arr hne2 e3))
          all_goals (
            obtain ⟨hA, hB, hP, hrow, hk⟩ := HV.out
            obtain ⟨x1, hK, hbl, d1, d2, d6, x8, hr3, hPr, hPne, hPgt, hok1, hok2⟩ := HX.out
            replace hA : Sn w3 bs (aV K L (i + 1)) (aS L (i + 1)) (i + 1) := (show Sn w2.drew bs _ _ _ from hA).kb kb3 (by omega)
            replace hB : Sn w3 bb (bV K L N (i + 1)) (bS L N (i + 1)) (i + 1) := (show Sn w2.drew bb _ _ _ from hB).kb kb3 (by omega)
            have hP2 : ∀ j, j < 3 → Sn w3 (P j) (pV K L j (i + 1)) (pS L j (i + 1)) (i + 1) := fun j hj => by
              by_cases c : j = r
              · rw [c]; exact hR3
              · obtain ⟨q1, q2⟩ := HE.out.2.2.1 j hj c
                rw [q1, q2]
                obtain ⟨k9, l9, s9⟩ := (show Sn w2.drew (P j) _ _ _ from hP j hj).kb kb3 (hPne j hj c)
                exact ⟨k9, by omega, s9⟩
            have hrow3 : w3.rowIs bp 65 3 (fun j => .pointer (some ⟨P j, 0, none⟩)) := World.rowIs.of_block (show w2.drew.rowIs bp 65 3 (fun j => .pointer (some ⟨P j, 0, none⟩)) from hrow) (kb3.2.2.2.2 bp (World.rowIs.lt hrow) (by omega))
            replace hk : Kp w w3 := kb3.kp hk.drew (by omega)
            have hVb : (bV K L N (i + 1)).natAbs < wh := Nat.lt_of_le_of_lt (bV_le K hK L _ _) (tb_wh K _ hK (by omega))
            have hVp : (pV K L r (i + 1)).natAbs < wh := Nat.lt_of_le_of_lt (ppV_le K hK L _ _) (tb_wh K _ hK (by omega))
            obtain ⟨kb9, lb9, sb9⟩ := hB
            have hB : Sn w3 bb (bV K L N (i + 1)) (bS L N (i + 1)) (i + 1) := ⟨kb9, lb9, sb9⟩
            obtain ⟨hN, ha, hok, -, hT, hQ, hkN, hk3, hnn⟩ := HN.out
            have hrd := stround_ (-1) (by decide) (by decide) bb _ _ _ hVb w3 sb9 (hT.grown hk) (Fq.Tab.grown hQ hk)
            have hrt := fun (W : World) (g : Kp w3 W) => (hP2 r hr3).elim (fun k9 h9 => stroot_ 1 (by decide) (by decide) (P r) _ k9 _ (pS_ok L r _) hVp W (h9.2.kp g) (hT.grown (hk.trans g)) (Fq.Tab.grown hQ (hk.trans g)))
            have c3' : w3.cell? ⟨bp, r, none⟩ = some (.pointer (some ⟨P r, 0, none⟩)) := World.rowIs.cell hrow3 hr3
            have HF : Hid (Sn w3 bs (aV K L (i + 1)) (aS L (i + 1)) (i + 1) ∧ Sn w3 bb (bV K L N (i + 1)) (bS L N (i + 1)) (i + 1) ∧ (∀ j, j < 3 → Sn w3 (P j) (pV K L j (i + 1)) (pS L j (i + 1)) (i + 1)) ∧ w3.rowIs bp 65 3 (fun j => .pointer (some ⟨P j, 0, none⟩)) ∧ Kp w w3) := ⟨hA, hB, hP2, hrow3, hk⟩
            generalize rdW (-1) (bV K L N (i + 1)) (bS L N (i + 1)) = RD at *
            generalize rtW 1 (pV K L r (i + 1)) (pS L r (i + 1)) = RT at *
            clear hA hB hP2 hrow3 hk hVb hVp sb9 lb9 hN ha hok hT hQ hkN hk3 hnn x1 hK hbl d1 d2 d6 x8 hr3 hPr hPne hPgt hok1 hok2 hP hrow HV HX HC HE e0 e1 e2 e3 c0 c1 c2 c3 hne1 hne2 hR3 kb3 ht3
            obtain ⟨hA, hB, hP2, hrow3, hk⟩ := HF.out
            cases hq : ((i : Int) % 5 == bits .and .i64 nn 7)
            · clear hrd hrt
              have HG := HF
              clear hA hB hP2 hrow3 hk
              go_wp2
              obtain ⟨hA, hB, hP2, hrow3, hk⟩ := HG.out
              exact ⟨⟨i + 1, by go_num, j2, hA, hB, hP2, hrow3, hk⟩, j3⟩
            · clear hA hB hP2 hrow3 hk
              go_wp2_with fail
              refine hrd.mono ?_
              rintro e w4 ⟨rfl, g4⟩
              have hrt := hrt w4 g4
              replace c3' := kkeep g4 c3'
              clear hrd
              go_wp2_with fail
              refine hrt.mono ?_
              rintro e w5 ⟨rfl, g5⟩
              go_wp2
              obtain ⟨hA, hB, hP2, hrow3, hk⟩ := HF.out
              have g := g4.trans g5
              exact ⟨⟨i + 1, by go_num, j2, hA.kp g, hB.kp g, fun j hj => (hP2 j hj).kp g, World.rowIs.of_block hrow3 (Below.block g bp (World.rowIs.lt hrow3)), hk.trans g⟩, j3⟩)
        · have hik : i = N := by omega
          have t1 : ¬ ((i : Int) < (N : Int)) := by omega
          rw [hik] at hA hB hP
          obtain ⟨hN, ha, hok, hK, hT, hQ, hkN, hk3, hnn⟩ := HN.out
          obtain ⟨d1, d2, d3, d4, d5, d6⟩ := HD.out
          have hbv := ba_V K L N N (Nat.le_refl _)
          have hbs := ba_S L N N (Nat.le_refl _)
          rw [Nat.sub_self] at hbv hbs
          rw [show aV K L 0 = 0 from rfl, Int.add_zero] at hbv
          rw [show aS L 0 = 0 from rfl, jn_zr _ (bS_ok L _ _)] at hbs
          rw [hbv, hbs] at hB
          have hpv := pa_V K L N
          have hps := pa_S L N
          have hVa : (aV K L N).natAbs < wh := Nat.lt_of_le_of_lt (aV_le K hK L _) (tb_wh K _ hK (by omega))
          have hSa := aS_ok L N
          have c0 := World.rowIs.cell hrow (i := 0) (by decide)
          have c1 := World.rowIs.cell hrow (i := 1) (by decide)
          have c2 := World.rowIs.cell hrow (i := 2) (by decide)
          have hP0 := hP 0 (by decide)
          have hP1 := hP 1 (by decide)
          have hP2 := hP 2 (by decide)
          have HM : Hid (Sn wr bs (aV K L N) (aS L N) N ∧ Sn wr bb (aV K L N) (aS L N) N ∧ Sn wr (P 0) (pV K L 0 N) (pS L 0 N) N ∧ Sn wr (P 1) (pV K L 1 N) (pS L 1 N) N ∧ Sn wr (P 2) (pV K L 2 N) (pS L 2 N) N ∧ Kp w wr) := ⟨hA, hB, hP0, hP1, hP2, hk⟩
          have HQ : Hid ((aV K L N).natAbs < wh ∧ OkS (aS L N) ∧ (pV K L 1 N + (pV K L 2 N + pV K L 0 N) = aV K L N) ∧ (jn (pS L 1 N) (jn (pS L 2 N) (pS L 0 N)) = aS L N)) := ⟨hVa, hSa, hpv, hps⟩
          clear hA hB hP hP0 hP1 hP2 hk hik hi ci hN ha hok hK hT hQ hkN hk3 hnn d1 d2 d3 d4 d5 d6 hbv hbs hpv hps hVa hSa hrow
          generalize P 0 = p0 at *
          generalize P 1 = p1 at *
          generalize P 2 = p2 at *
          go_wp2_with fail
          refine (newS_ _).mono ?_
          rintro e w1 ⟨rfl, hAll, g⟩
          obtain ⟨hA, hB, h0, h1, h2, hk⟩ := HM.out
          obtain ⟨d1, d2, d3, d4, d5, d6⟩ := HD.out
          have hba : p2 < wr.heap.size := h2.lt
          replace hA := hA.kp g
          replace hB := hB.kp g
          replace h0 := h0.kp g
          replace h1 := h1.kp g
          replace h2 := h2.kp g
          replace c0 := kkeep g c0
          replace c1 := kkeep g c1
          replace c2 := kkeep g c2
          replace hk := hk.trans g
          clear g HM
          generalize wr.heap.size = ba at *
          have hk3 : N ≤ 3000 := HN.out.2.2.2.2.2.2.2.1
          have hm1 := mergeS_ ba p2 _ _ _ _ 0 N (by omega) w1 hAll h2
          rw [Int.zero_add, jn_zl] at hm1
          have HM : Hid (Sn w1 bs (aV K L N) (aS L N) N ∧ Sn w1 bb (aV K L N) (aS L N) N ∧ Sn w1 p0 (pV K L 0 N) (pS L 0 N) N ∧ Sn w1 p1 (pV K L 1 N) (pS L 1 N) N ∧ Kp w w1 ∧ bs < bb ∧ bb < bp ∧ bp < p0 ∧ p0 < p1 ∧ p1 < p2 ∧ w.heap.size ≤ bs ∧ p2 < ba ∧ N ≤ 3000) := ⟨hA, hB, h0, h1, hk, d1, d2, d3, d4, d5, d6, hba, hk3⟩
          clear hA hB h0 h1 h2 hk d1 d2 d3 d4 d5 d6 hba hAll hk3
          go_wp2_with fail
          refine hm1.mono ?_
          rintro e w2 ⟨⟨v2, rfl⟩, hAll, kb⟩
          obtain ⟨hA, hB, h0, h1, hk, d1, d2, d3, d4, d5, d6, hba, hk3⟩ := HM.out
          replace hA := hA.kb kb (by omega)
          replace hB := hB.kb kb (by omega)
          replace h0 := h0.kb kb (by omega)
          replace h1 := h1.kb kb (by omega)
          replace c0 := kb.arr (show bp ≠ ba by omega) c0
          replace c1 := kb.arr (show bp ≠ ba by omega) c1
          replace c2 := kb.arr (show bp ≠ ba by omega) c2
          replace hk := kb.kp hk (by omega)
          have hm2 := mergeS_ ba p0 _ _ _ _ (0 + N) N (by omega) w2 hAll h0
          clear kb HM hm1
          have HM : Hid (Sn w2 bs (aV K L N) (aS L N) N ∧ Sn w2 bb (aV K L N) (aS L N) N ∧ Sn w2 p1 (pV K L 1 N) (pS L 1 N) N ∧ Kp w w2 ∧ bs < bb ∧ bb < bp ∧ bp < p0 ∧ p0 < p1 ∧ p1 < p2 ∧ w.heap.size ≤ bs ∧ p2 < ba ∧ N ≤ 3000) := ⟨hA, hB, h1, hk, d1, d2, d3, d4, d5, d6, hba, hk3⟩
          clear hA hB h0 h1 hk d1 d2 d3 d4 d5 d6 hba hAll hk3
          go_wp2_with fail
          refine hm2.mono ?_
          rintro e w3 ⟨⟨v3, rfl⟩, hAll, kb⟩
          obtain ⟨hA, hB, h1, hk, d1, d2, d3, d4, d5, d6, hba, hk3⟩ := HM.out
          replace hA := hA.kb kb (by omega)
          replace hB := hB.kb kb (by omega)
          replace h1 := h1.kb kb (by omega)
          replace c1 := kb.arr (show bp ≠ ba by omega) c1
          replace hk := kb.kp hk (by omega)
          have hm3 := mergeS_ p1 ba _ _ _ _ N (0 + N + N) (by omega) w3 h1 hAll
          rw [HQ.out.2.2.1, HQ.out.2.2.2] at hm3
          clear kb HM hm2 c0 c2
          have HM : Hid (Sn w3 bs (aV K L N) (aS L N) N ∧ Sn w3 bb (aV K L N) (aS L N) N ∧ Kp w w3 ∧ bs < bb ∧ bb < bp ∧ bp < p0 ∧ p0 < p1 ∧ p1 < p2 ∧ w.heap.size ≤ bs ∧ p2 < ba) := ⟨hA, hB, hk, d1, d2, d3, d4, d5, d6, hba⟩
          clear hA hB h1 hk d1 d2 d3 d4 d5 d6 hba hAll hk3
          go_wp2_with fail
          refine hm3.mono ?_
          rintro e w4 ⟨⟨v4, rfl⟩, hC, kb⟩
          obtain ⟨hA, hB, hk, d1, d2, d3, d4, d5, d6, hba⟩ := HM.out
          replace hA := hA.kb kb (by omega)
          replace hB := hB.kb kb (by omega)
          replace c1 := kb.arr (show bp ≠ p1 by omega) c1
          replace hk := kb.kp hk (by omega)
          obtain ⟨k1, -, hA⟩ := hA
          obtain ⟨k2, -, hB⟩ := hB
          obtain ⟨k3, -, hC⟩ := hC
          obtain ⟨hVa, hSa, -, -⟩ := HQ.out
          obtain ⟨hN, ha, hok, hK, hT, hQ, hkN, hk3, hnn⟩ := HN.out
          have hal1 := alike_ nn hnn bs bb _ k1 k2 _ hSa hVa w4 hA hB (hT.grown hk) (Fq.Tab.grown hQ hk)
          have hal2 := fun (W : World) (g : Kp w4 W) => alike_ nn hnn bs p1 _ k1 k3 _ hSa hVa W (hA.kp g) (hC.kp g) (hT.grown (hk.trans g)) (Fq.Tab.grown hQ (hk.trans g))
          have hlv2 := fun (W : World) (g : Kp w W) => lives_ W (hT.grown g) (Fq.Tab.grown hQ g)
          have HK : Hid (Kp w w4) := hk
          clear hA hB hC hVa hSa hN ha hok hK hT hQ hkN hk3 hnn hk d1 d2 d3 d4 d5 d6 hba kb HM hm3 HQ HN
          go_wp2_with fail
          refine hal1.mono ?_
          rintro e w5 ⟨rfl, g5⟩
          replace c1 := kkeep g5 c1
          have hal2 := hal2 w5 g5
          go_wp2_with fail
          refine hal2.mono ?_
          rintro e w6 ⟨rfl, g6⟩
          have hk6 := (HK.out.trans g5).trans g6
          have hlv2 := hlv2 w6 hk6
          go_wp2_with fail
          refine hlv2.mono ?_
          rintro e w7 ⟨rfl, g7⟩
          go_wp2
          exact bodyPost_ret (v := .bool true) (by simp [results, Tryz.results5, go_sem]) rfl ⟨rfl, hk6.trans g7⟩
end Go.Proofs.YteedfmghgkmofaaGreatDoor
