import Derived.Test.YtipedmnipolmeaaKXQc
namespace Go.Proofs.Ytipedmnipolmeaa
open Go.RowKit
open Go
namespace X7
set_option linter.unusedVariables false
set_option maxRecDepth 20000 in
set_option maxHeartbeats 4000000 in
theorem made_ (V : Int) (p q : Option Addr) (c d : Nat) (ps : List (Nat × Nat)) (L : List I5) (w : World) (hx : AG ULV w p ps) (hy : AI w q L) (lx : ps.length ≤ 1048576) (ly : L.length ≤ 1048576) :
    Calls Try.prog 7 #[.agg #[.int .i64 V, .slice p ps.length c, .slice q L.length d]] w fun e w' => ∃ vc vk, e = .returned (.agg #[.int .i64 V, vc, vk]) ∧ OG FLV 71 w' w.heap.size vc ps ∧ OI 62 w' w.heap.size vk L ∧ Kp w w' := by
  obtain ⟨N, hN⟩ : ∃ N, N = ps.length := ⟨_, rfl⟩
  obtain ⟨M, hM⟩ : ∃ M, M = L.length := ⟨_, rfl⟩
  have hbx := fun (W : World) (g : Kp w W) => inbox2_ p c ps W (hx.grown g) lx
  rw [← hN] at lx hbx ⊢
  rw [← hM] at ly ⊢
  have HY : Hid (AI w q L) := hy
  have HN : Hid (N = ps.length) := hN
  have HM : Hid (M = L.length) := hM
  obtain ⟨i0, hi0, hi1, hi2, hi3⟩ := infN
  clear hN hx hy hM
  go_enter Try.func7, Try.ntmps7
  go_upto_region 1 with fail
  have sx : H3c ((w.alloc (.cells #[.int .i64 V, .slice p N c, .slice q M d] 25)).alloc (.cells #[.int .i64 0, .slice none 0 0, .slice none 0 0] 32)) w.heap.size (.int .i64 V) (.slice p N c) (.slice q M d) := H3c.keep (H3c.new w (.int .i64 V) (.slice p N c) (.slice q M d) 25) ((Kp.refl _).alloc _)
  have sr : H3c ((w.alloc (.cells #[.int .i64 V, .slice p N c, .slice q M d] 25)).alloc (.cells #[.int .i64 0, .slice none 0 0, .slice none 0 0] 32)) (w.heap.size + 1) (.int .i64 0) (.slice none 0 0) (.slice none 0 0) := by
    have h := H3c.new (w.alloc (.cells #[.int .i64 V, .slice p N c, .slice q M d] 25)) (.int .i64 0) (.slice none 0 0) (.slice none 0 0) 32
    rw [show (w.alloc (.cells #[.int .i64 V, .slice p N c, .slice q M d] 25)).heap.size = w.heap.size + 1 from by simp] at h
    exact h
  have kw : Kp w ((w.alloc (.cells #[.int .i64 V, .slice p N c, .slice q M d] 25)).alloc (.cells #[.int .i64 0, .slice none 0 0, .slice none 0 0] 32)) := ((Kp.refl w).alloc _).alloc _
  have hsw : w.heap.size + 1 < ((w.alloc (.cells #[.int .i64 V, .slice p N c, .slice q M d] 25)).alloc (.cells #[.int .i64 0, .slice none 0 0, .slice none 0 0] 32)).heap.size := by simp
  generalize ((w.alloc (.cells #[.int .i64 V, .slice p N c, .slice q M d] 25)).alloc (.cells #[.int .i64 0, .slice none 0 0, .slice none 0 0] 32)) = W at sx sr kw hsw ⊢
  obtain ⟨x0, x1, x2, x3, x4, x5⟩ := id sx
  go_cut [3] (fun s3 wx => ∃ (g : Nat) (pa : Option Addr) (ca : Nat), s3 = .pointer (some ⟨g, 0, none⟩) ∧ H3c wx g (.int .i64 V) (.slice pa N ca) (.slice none 0 0) ∧ Kp W wx ∧ OG FLV 71 wx W.heap.size (.slice pa N ca) ps ∧ (∀ k, (Value.slice pa N ca).ownBlock = some k → k ≠ g) ∧ W.heap.size ≤ g)
  case first =>
    go_region_held3 (fun w' => w'.cell? ⟨w.heap.size, 0, none⟩ = some (.int .i64 V) ∧ w'.cell? ⟨w.heap.size, 1, none⟩ = some (.slice p N c) ∧ w'.cell? ⟨w.heap.size, 2, none⟩ = some (.slice q M d)) (first | (with_reducible exact ⟨x0, x1, x2⟩) | (with_reducible exact ⟨cb0_0, cb0_1, cb0_2⟩) | (refine ⟨(kkeep (W := W) ?_ x0), (kkeep (W := W) ?_ x1), (kkeep (W := W) ?_ x2)⟩ <;> ((repeat (first | with_reducible exact Kp.refl _ | with_reducible apply Kp.drew | with_reducible apply Kp.alloc)); done)) | (refine ⟨(kkeep (W := w1) ?_ cb0_0), (kkeep (W := w1) ?_ cb0_1), (kkeep (W := w1) ?_ cb0_2)⟩ <;> ((repeat (first | with_reducible exact Kp.refl _ | with_reducible apply Kp.drew | with_reducible apply Kp.alloc)); done)) | (refine ⟨?_, ?_, ?_⟩ <;> (refine ((World.cell?_setCell_far _ _ _ _ ?_).trans ((World.cell?_setCell_far _ _ _ _ ?_).trans ((World.cell?_setCell_far _ _ _ _ ?_).trans ?_))) <;> first | assumption | (have h90 := cell_lt x0; have h91 := cell_lt x1; have h92 := cell_lt x2; have h80 := Below.size KB0; first | omega | (simp <;> omega))))) (first | (go_at_call 24; refine (hbx _ (Kp.trans kw (by (repeat (first | exact Kp.refl _ | apply Kp.drew | apply Kp.alloc)); done))).mono ?_; rintro e w1 ⟨pa, ca, rfl, o1, g1⟩; have KB0 : Kp W w1 := Kp.trans (by (repeat (first | exact Kp.refl _ | apply Kp.drew | apply Kp.alloc)); done) g1; have cb0_0 := kkeep KB0 x0; have cb0_1 := kkeep KB0 x1; have cb0_2 := kkeep KB0 x2; first | ((with_reducible have hb9 := (H3c.keep (H3c.newD W (.int .i64 0) (.slice none 0 0) (.slice none 0 0) 32) g1)); obtain ⟨mb0, mb1, mb2, mb3, mb4, mb5⟩ := id hb9) | skip))
    all_goals go_wp2_with fail
    all_goals (
      go_meet
      refine ⟨_, pa, ca, rfl, ?_, ?_, ?_, ?_, ?_⟩
      · first | (with_reducible exact H3c.put hb9 _ _ _) | (with_reducible exact H3c.put (H3c.new w1 (.int .i64 0) (.slice none 0 0) (.slice none 0 0) 32) _ _ _) | (with_reducible exact H3c.new w1 _ _ _ 32) | (unfold H3c; simp [go_sem]; done)
      · have h80 := Below.size KB0
        first | (with_reducible exact (Kp.alloc KB0 _)) | ((with_reducible refine (Kp.setCell (Kp.setCell (Kp.setCell KB0 ?_ _) ?_ _) ?_ _)) <;> first | omega | (simp <;> omega)) | ((with_reducible refine (Kp.setCell (Kp.setCell (Kp.setCell (Kp.alloc KB0 _) ?_ _) ?_ _) ?_ _)) <;> first | omega | (simp <;> omega))
      · have h80 := Below.size KB0
        first | (with_reducible exact OG.mono (OG.kp o1 ((Kp.refl _).alloc _)) (by simp)) | (exact OG.mono (og_sets3 o1 (fun g hg => by have := og_block o1 g hg; simp at this; omega) _ _ _) (by simp))
      · intro k hk
        have h1 := og_block o1 k hk
        have h2 := og_lt o1 k hk
        simp at h1 h2 ⊢
        omega
      · have h80 := Below.size KB0
        first | exact Nat.le_refl _ | exact h80)
  case rest =>
    obtain ⟨B3, pa, ca, rfl, sb, kc, ho, hne, hge⟩ := hcut
    rename_i wc
    have sx := H3c.keep sx kc
    have sr := H3c.keep sr kc
    have kw := kw.trans kc
    have hB3 := sb.lt
    have hvS := og_lt ho
    have hvB := og_block ho
    have hkS := kc.size
    obtain ⟨S, hS⟩ : ∃ S, S = wc.heap.size := ⟨_, rfl⟩
    rw [← hS] at hB3 hvS hkS
    clear kc x0 x1 x2 x3 x4 x5 hbx
    have HH : Hid (w.heap.size + 1 < B3 ∧ B3 < S ∧ (∀ k, (Value.slice pa N ca).ownBlock = some k → k ≠ B3 ∧ k < S ∧ w.heap.size + 1 < k) ∧ S = wc.heap.size) := ⟨by omega, hB3, fun k hk => ⟨hne k hk, hvS k hk, by have := hvB k hk; omega⟩, hS⟩
    have HI : Hid (H3c wc w.heap.size (.int .i64 V) (.slice p N c) (.slice q M d) ∧ H3c wc (w.heap.size + 1) (.int .i64 0) (.slice none 0 0) (.slice none 0 0) ∧ H3c wc B3 (.int .i64 V) (.slice pa N ca) (.slice none 0 0) ∧ OG FLV 71 wc w.heap.size (.slice pa N ca) ps ∧ Kp w wc) := ⟨sx, sr, sb, ho.mono (by omega), kw⟩
    clear hne hvS hvB hkS hB3 hge hsw hS sx sr sb ho kw
    go_wp2
    go_loopw [4, 5] (fun s4 s5 wr => ∃ (i : Nat) (pk : Option Addr) (ck : Nat), s4 = .int .i64 i ∧ i ≤ M ∧ H3c wr w.heap.size (.int .i64 V) (.slice p N c) (.slice q M d) ∧ H3c wr (w.heap.size + 1) (.int .i64 0) (.slice none 0 0) (.slice none 0 0) ∧ H3c wr B3 (.int .i64 V) (.slice pa N ca) (.slice pk i ck) ∧ OG FLV 71 wr w.heap.size (.slice pa N ca) ps ∧ OI 62 wr S (.slice pk i ck) (L.take i) ∧ Kp w wr ∧ S ≤ wr.heap.size) (fun s4 _ _ => M - (intOf s4).toNat)
    case atStart => exact ⟨0, none, 0, rfl, Nat.zero_le _, HI.out.1, HI.out.2.1, HI.out.2.2.1, HI.out.2.2.2.1, OI.nil _ _ _, HI.out.2.2.2.2, by rw [HH.out.2.2.2]; exact Nat.le_refl _⟩
    case round =>
      obtain ⟨i, pk, ck, rfl, hi, sx, sr, sb, ho, hown, hkp, hSz⟩ := hrel
      clear HI
      have hM := HM.out
      by_cases ci : i < M
      · obtain ⟨b, off, rfl, hc5⟩ := HY.out.at (k := i) (by omega)
        obtain ⟨e0, e1, e2, e3, e4⟩ := hc5 i (by omega)
        have hpush := take_push5 L i (by omega)
        have hlen : (L.take i).length = i := by rw [List.length_take]; omega
        have HL2 : Hid ((L.take (i + 1)).length = i + 1) := by show _ = _; rw [List.length_take]; omega
        obtain ⟨⟨x0, x1, x2, x3, x4⟩, hX⟩ : ∃ X, X = L.getD i D5 := ⟨_, rfl⟩
        rw [← hX] at e0 e1 e2 e3 e4 hpush
        simp only at e0 e1 e2 e3 e4
        replace e0 := kkeep hkp e0
        replace e1 := kkeep hkp e1
        replace e2 := kkeep hkp e2
        replace e3 := kkeep hkp e3
        replace e4 := kkeep hkp e4
        have HP : Hid (L.take i ++ [(x0, x1, x2, x3, x4)] = L.take (i + 1)) := hpush
        have hown' : wr.ownsRow S 62 5 (.slice pk i ck) ((L.take i).length) (flat5 (L.take i)) := hown
        obtain ⟨a0, a1, a2, a3, a4, a5⟩ := id sx
        have kA : Kp wr (wr.alloc (.cells #[.int .i64 x0, .int .i64 x1, .int .i64 x2, .int .i64 x3, .int .i64 x4] 61)) := (Kp.refl wr).alloc _
        obtain ⟨b0, b1, b2, b3, b4, b5⟩ := id (H3c.keep sb kA)
        clear hc5 hX HY HM hpush hM kA
        go_wp2_with (first | (at_builtin; refine wpList_append_own _ rfl _ _ 30 rfl S 62 i0 (.agg #[.int .i64 0, .int .i64 0, .int .i64 0, .int .i64 0, .int .i64 0]) 5 40 Try.underlying30 hi0 hi1 hi2 hi3 rfl (by decide) _ _ _ rfl ((hown'.alloc _).alloc _) ⟨wr.heap.size + 1, 0, none⟩ 1 1 [.int .i64 x0, .int .i64 x1, .int .i64 x2, .int .i64 x3, .int .i64 x4] rfl rfl ?c1 ?c2 ?c3 ?c4 ?c5 ?_))
        case c1 =>
          intro j' u hj'
          match j', hj' with
          | 0, hj' => simp at hj'; subst hj'; simp [Addr.add]
          | 1, hj' => simp at hj'; subst hj'; simp [Addr.add]
          | 2, hj' => simp at hj'; subst hj'; simp [Addr.add]
          | 3, hj' => simp at hj'; subst hj'; simp [Addr.add]
          | 4, hj' => simp at hj'; subst hj'; simp [Addr.add]
        case c2 => intro u hu; simp at hu; rcases hu with rfl | rfl | rfl | rfl | rfl <;> rfl
        case c3 => unfold maxLen; omega
        case c4 => omega
        case c5 => simp; omega
        intro v' w2 hown2 hgrow _
        have hO : OI 62 w2 S v' (L.take (i + 1)) := by
          rw [← HP.out]
          refine OI.push ?_
          rw [hlen]
          exact hown2
        have bl : Below S wr w2 := Below.grown (Below.alloc (Below.alloc (Below.refl S wr) hSz _) (by simp; omega) _) hgrow (by simp; omega) (oi_block hown)
        have kp2 : Kp w w2 := Kp.grown ((hkp.alloc _).alloc _) hgrow (fun k hk => by have h1 := oi_block hown k hk; have h2 := HH.out; omega)
        have hS2 : S ≤ w2.heap.size := Below.size bl |> fun h => by omega
        obtain ⟨pk2, ck2, rfl, -, -, -⟩ := hO.arr
        have hlen2 := HL2.out
        rw [hlen2] at hO ⊢
        have sx2 := sx.bel bl (by have := HH.out; omega)
        have sr2 := sr.bel bl (by have := HH.out; omega)
        have sb2 := sb.bel bl HH.out.2.1
        have ho2 := OG.bel ho bl (fun g hg => (HH.out.2.2.1 g hg).2.1)
        clear hown hown' hown2 hgrow bl hkp hSz ho sx sr sb a0 a1 a2 a3 a4 a5 b0 b1 b2 b3 b4 b5 HP hlen hlen2 e0 e1 e2 e3 e4
        obtain ⟨b0, b1, b2, b3, b4, b5⟩ := id sb2
        go_wp2
        have hh := HH.out
        refine ⟨⟨i + 1, pk2, ck2, by go_num, by omega, H3c.far1 sx2 _ (show B3 ≠ w.heap.size by omega) _, H3c.far1 sr2 _ (show B3 ≠ w.heap.size + 1 by omega) _, H3c.set2 sb2 _, OG.setNe ho2 (fun g hg => (hh.2.2.1 g hg).1) _, OI.setNe hO (fun g hg => by have := oi_block hO g hg; omega) _, kp2.setCell (show w.heap.size ≤ B3 by omega) _, ?_⟩, by simp [intOf]; omega⟩
        simpa using hS2
      · have hjk : i = M := by omega
        rw [List.take_of_length_le (by omega)] at hown
        subst hjk
        have hh := HH.out
        have hO2 : OI 62 wr S (.slice pk i ck) L := hown
        have HZ : Hid ((∀ k, (Value.slice pk i ck).ownBlock = some k → S ≤ k) ∧ H3c wr (w.heap.size + 1) (.int .i64 0) (.slice none 0 0) (.slice none 0 0) ∧ OG FLV 71 wr w.heap.size (.slice pa N ca) ps ∧ OI 62 wr S (.slice pk i ck) L ∧ Kp w wr ∧ S ≤ wr.heap.size) := ⟨oi_block hown, sr, ho, hO2, hkp, hSz⟩
        obtain ⟨a0, a1, a2, a3, a4, a5⟩ := id sx
        obtain ⟨b0, b1, b2, b3, b4, b5⟩ := id sb
        obtain ⟨r0, r1, r2, r3, r4, r5⟩ := id sr
        clear HY HM hown hM ho hO2 hkp hSz hh hi ci
        go_wp2
        have hh := HH.out
        have hz := HZ.out
        refine bodyPost_ret (v := .agg #[.int .i64 V, .slice pa N ca, .slice pk i ck]) (by simp [results, Try.results7, go_sem, r0, r1, r2]) rfl ⟨_, _, rfl, ?_, ?_, ?_⟩
        · exact og_sets3 hz.2.2.1 (fun g hg => by have := (hh.2.2.1 g hg).2.2; omega) _ _ _
        · exact OI.mono (oi_sets3 hz.2.2.2.1 (fun g hg => by have := hz.1 g hg; omega) _ _ _) (by omega)
        · exact ((hz.2.2.2.2.1.setCell (by simp) _).setCell (by simp) _).setCell (by simp) _
end X7
end Go.Proofs.Ytipedmnipolmeaa
