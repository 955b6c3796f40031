import Derived.Test.YtcckdceijgdgoaaKPTz
namespace Go.Proofs.Ytcckdceijgdgoaa
open Go.RowKit
open Go
namespace B8
set_option maxRecDepth 100000 in
set_option maxHeartbeats 8000000 in
theorem keptE (p : Option Addr) (c N : Nat) (ls : List (Nat × Nat)) (w : World) (HL : Hid (AG ULV w p ls ∧ ls.length = N ∧ Wq ls)) (lx : N ≤ 1048576) (v : Value) (j : Nat) (ks : List (Nat × Nat)) (wr : World) (hjN : j ≤ N) (hj40 : j ≤ 40) (hlk : ks.length = 6 * j) (hks : KS wr w.heap.size v ks 0) (hkp : Kp w wr) (u1 u2 u4 u5 u6 u7 u8 u9 u10 u11 u12 u13 u14 u15 u16 u17 u18 u19 u20 u21 u22 u23 u24 u25 u26 u27 u28 u29 u30 u31 u32 u33 u34 u35 u36 u37 u38 u39 u40 u41 u42 u43 u44 u45 u46 u47 u48 u49 u50 u51 u52 u53 u54 u55 u56 u57 u58 u59 u60 u61 u62 u63 u64 u65 u66 u67 u68 u69 u70 u71 u72 u73 u74 u75 u76 u77 u78 u79 u80 u81 u82 u83 u84 u85 u86 u87 u88 u89 u90 u91 u92 u93 u94 u95 u96 u97 u98 u99 u100 u101 u102 u103 u104 u105 u106 u107 u108 u109 u110 u111 u112 u113 u114 u115 u116 u117 u118 u119 u120 u121 u122 u123 u124 u125 u126 u127 u128 u129 u130 u131 u132 u133 u134 u135 u136 u137 u138 u139 u140 u141 u142 u143 u144 u145 u146 u147 u148 u149 u150 u151 u152 u153 u154 u155 u156 u157 u158 u159 u160 u161 u162 u163 u164 u165 u166 u167 u168 u169 u170 u171 u172 u173 u174 u175 u176 u177 u178 u179 u180 u181 u182 u183 u184 u185 u186 u187 u188 u189 u190 u191 u192 u193 u194 u195 u196 u197 u198 u199 u200 u201 u202 u203 u204 u205 u206 u207 u208 u209 u210 u211 u212 u213 u214 u215 u216 u217 u218 u219 u220 u221 u222 u223 u224 u225 u226 u227 u228 u229 u230 u231 u232 u233 u234 u235 u236 u237 u238 u239 u240 u241 u242 u243 u244 u245 u246 u247 u248 u249 u250 u251 u252 : Value) : Code.wp Try.prog (dropC 4 (Try.f6.body.getD .skip)) (bodyPost Try.prog Try.f6 fun e w' => e = .returned (.bool true) ∧ Kp w w') ⟨#[.slice p N c, u1, u2, v, u4, u5, u6, u7, u8, u9, u10, u11, u12, u13, u14, u15, u16, u17, u18, u19, u20, u21, u22, u23, u24, u25, u26, u27, u28, u29, u30, u31, u32, u33, u34, u35, u36, u37, u38, u39, u40, u41, u42, u43, u44, u45, u46, u47, u48, u49, u50, u51, u52, u53, u54, u55, u56, u57, u58, u59, u60, u61, u62, u63, u64, u65, u66, u67, u68, u69, u70, u71, u72, u73, u74, u75, u76, u77, u78, u79, u80, u81, u82, u83, u84, u85, u86, u87, u88, u89, u90, u91, u92, u93, u94, u95, u96, u97, u98, u99, u100, u101, u102, u103, u104, u105, u106, u107, u108, u109, u110, u111, u112, u113, u114, u115, u116, u117, u118, u119, u120, u121, u122, u123, u124, u125, u126, u127, u128, u129, u130, u131, u132, u133, u134, u135, u136, u137, u138, u139, u140, u141, u142, u143, u144, u145, u146, u147, u148, u149, u150, u151, u152, u153, u154, u155, u156, u157, u158, u159, u160, u161, u162, u163, u164, u165, u166, u167, u168, u169, u170, u171, u172, u173, u174, u175, u176, u177, u178, u179, u180, u181, u182, u183, u184, u185, u186, u187, u188, u189, u190, u191, u192, u193, u194, u195, u196, u197, u198, u199, u200, u201, u202, u203, u204, u205, u206, u207, u208, u209, u210, u211, u212, u213, u214, u215, u216, u217, u218, u219, u220, u221, u222, u223, u224, u225, u226, u227, u228, u229, u230, u231, u232, u233, u234, u235, u236, u237, u238, u239, u240, u241, u242, u243, u244, u245, u246, u247, u248, u249, u250, u251, u252], []⟩ wr := by
  conv => arg 2; whnf
  obtain ⟨n, hn⟩ : ∃ n, ks.length = n := ⟨_, rfl⟩
  have hn240 : n ≤ 240 := by omega
  have HV : Hid (∀ W m, KS W w.heap.size v ks m → ∃ b d, v = .slice (some ⟨b, 0, none⟩) n d ∧ v.ownBlock = some b ∨ n = 0) := fun W m h => by
    by_cases c0 : n = 0
    · exact ⟨0, 0, Or.inr c0⟩
    · obtain ⟨b, d, h1, h2⟩ := h.slot (i := 0) (by omega)
      rw [hn] at h1
      exact ⟨b, d, Or.inl ⟨h1, by rw [h1]; rfl⟩⟩
  have HN : Hid (ks.length = n) := hn
  obtain ⟨pk, ck, hv⟩ := hks.len
  rw [hn] at hv
  subst hv
  clear hlk hn
  go_wp2_with fail
  go_loopw [11] (fun i wr => ∃ m : Nat, m ≤ n ∧ i = .int .i64 m ∧ KS wr w.heap.size (.slice pk n ck) ks m ∧ Kp w wr) (fun i _ => n - (intOf i).toNat)
  case atStart => exact ⟨0, Nat.zero_le _, rfl, hks, hkp⟩
  case round =>
    clear hks hkp
    obtain ⟨m, hm, rfl, hks, hkp⟩ := hrel
    by_cases cm : m < n
    · obtain ⟨bk, c', hv, hcell⟩ := hks.slot (i := m) (by rw [HN.out]; exact cm)
      have hpk : pk = some ⟨bk, 0, none⟩ := by rw [HN.out] at hv; simp at hv; exact hv.1
      subst hpk
      have hfull := hks.2.1 m (by rw [HN.out]; exact cm)
      have hmk := fun (w' : World) => KS.mark (w' := w') hks (by rw [HN.out]; exact cm)
      generalize hG : (ks.getD m (0, 0)).1 = G at *
      generalize hLn : (ks.getD m (0, 0)).2 = L at *
      obtain ⟨hb1, hL33, hbG, ⟨f, hrow⟩, -⟩ := hfull
      have hbk : bk ≠ G := fun e => hbG (by rw [e]; rfl)
      clear hv hbG
      have hcell0 := hcell
      obtain ⟨wb, hwb⟩ : ∃ wb, wb = wr := ⟨_, rfl⟩
      subst hwb
      have HM : Hid (∀ w' : World, Kb G wb w' → w'.rowIs G 5 L (fun _ => .int .u8 (mk m)) → KS w' w.heap.size (.slice (some ⟨bk, 0, none⟩) n ck) ks (m + 1)) := hmk
      have hmark := mark_ m (by omega)
      clear hmk hks HV hG hLn
      go_wp2_with fail
      go_loopw [12] (fun a w2 => ∃ t : Nat, t ≤ L ∧ a = .int .i64 t ∧ w2.rowIs G 5 L (fun x => if x < t then .int .u8 (mk m) else f x) ∧ Kb G wb w2 ∧ w2.cell? ⟨bk, m, none⟩ = some (.slice (some ⟨G, 0, none⟩) L L)) (fun a _ => L - (intOf a).toNat)
      case atStart => exact ⟨0, Nat.zero_le _, rfl, hrow.congr (fun x _ => by rw [if_neg (by omega)]), Kb.refl _ _, hcell⟩
      case round =>
        clear hrow hcell
        obtain ⟨t, ht, rfl, hrow, hkb, hcell⟩ := hrel
        by_cases ct : t < L
        · have e1 := hrow.cell (i := t) (by omega)
          have e2 := hrow.frozen t
          have hst : ∀ W, Kp wr W → (W.setCell ⟨G, t, none⟩ (.int .u8 (mk m))).rowIs G 5 L (fun x => if x < t + 1 then .int .u8 (mk m) else f x) ∧ Kb G wb (W.setCell ⟨G, t, none⟩ (.int .u8 (mk m))) ∧ (W.setCell ⟨G, t, none⟩ (.int .u8 (mk m))).cell? ⟨bk, m, none⟩ = some (.slice (some ⟨G, 0, none⟩) L L) := fun W hK => by
            have hkb2 := (hkb.step hK).setCell t (.int .u8 (mk m))
            refine ⟨World.rowIs.congr ((rowIs_grown hrow hK).set t (.int .u8 (mk m))) (fun x _ => ?_), hkb2, hkb2.arr hbk hcell0⟩
            by_cases d1 : x = t
            · subst d1; rw [if_pos rfl, if_pos (by omega)]
            · rw [if_neg d1]
              by_cases d3 : x < t
              · rw [if_pos d3, if_pos (by omega)]
              · rw [if_neg d3, if_neg (by omega)]
          generalize (if t < t then Value.int .u8 (mk m) else f t) = V at e1
          generalize mk m = X at *
          clear hrow hkb HM HL HN hkp
          go_upto_region 24 with fail
          go_region_held3 (fun W' => W'.cell? ⟨bk, m, none⟩ = some (.slice (some ⟨G, 0, none⟩) L L)) (first | exact hcell | (refine kkeep (W := wr) ?_ hcell; ((repeat (first | with_reducible exact Kp.refl _ | with_reducible refine Kp.drew ?_ | with_reducible refine Kp.alloc ?_ _)); done)) | (refine (hst _ ?_).2.2; ((repeat (first | with_reducible exact Kp.refl _ | with_reducible refine Kp.drew ?_ | with_reducible refine Kp.alloc ?_ _)); done))) (first | (go_at_call 25; refine (hmark _).mono ?_; rintro e w9 ⟨rfl, h9⟩; rw [h9]))
          all_goals (
            obtain ⟨s1, s2, s3⟩ := hst wr (Kp.refl _)
            go_wp2_with fail
            refine ⟨⟨t + 1, by omega, by go_num, rowIs_grown s1 ?_, s2.step ?_, kkeep ?_ s3⟩, by simp [intOf]; omega⟩ <;> ((repeat (first | with_reducible exact Kp.refl _ | with_reducible refine Kp.drew ?_ | with_reducible refine Kp.alloc ?_ _)); done))
        · have hks := HM.out wr hkb (hrow.congr (fun x hx => by rw [if_pos (by omega)]))
          have hkp2 : Kp w wr := hkb.kp hkp hb1
          clear hrow hkb hmark HM HL
          go_wp2_with fail
          exact ⟨⟨m + 1, by omega, by go_num, hks, hkp2⟩, by simp [intOf]; omega⟩
    · have hks2 : KS wr w.heap.size (.slice pk n ck) ks n := (show m = n by omega) ▸ hks
      clear hks
      obtain ⟨wc, hwc⟩ : ∃ wc, wc = wr := ⟨_, rfl⟩
      subst hwc
      go_wp2_with fail
      go_loopw [13, 14] (fun a i wr => ∃ (v : Value) (m : Nat) (gs : List Value), v = a ∧ m ≤ n ∧ i = .int .i64 m ∧ gs.length = m ∧ GS wr wc.heap.size v ks gs ∧ Kp wc wr) (fun _ i _ => n - (intOf i).toNat)
      case atStart => exact ⟨_, 0, [], rfl, Nat.zero_le _, rfl, rfl, GS.nil _ _ _, Kp.refl _⟩
      case round =>
        clear cm hm
        obtain ⟨vg, m, gs, rfl, hm, rfl, hlg, hgs, hkc⟩ := hrel
        have hks := hks2.kp hkc
        by_cases cm : m < n
        · obtain ⟨bk, c', hv, hcell⟩ := hks.slot (i := m) (by rw [HN.out]; exact cm)
          have hpk : pk = some ⟨bk, 0, none⟩ := by rw [HN.out] at hv; simp at hv; exact hv.1
          subst hpk
          obtain ⟨-, hL33, -, -, hrow⟩ := hks.2.1 m (by rw [HN.out]; exact cm)
          have hrow := hrow cm
          obtain ⟨G, hG⟩ : ∃ G, (ks.getD m (0, 0)).1 = G := ⟨_, rfl⟩
          obtain ⟨L, hLn⟩ : ∃ L, (ks.getD m (0, 0)).2 = L := ⟨_, rfl⟩
          rw [hG, hLn] at hcell hrow
          rw [hLn] at hL33
          have HLn : Hid ((ks.getD m (0, 0)).2 = L) := hLn
          have ha : Arr wr (some ⟨G, 0, none⟩) (List.replicate L (mk m)) := Or.inr ⟨G, 0, rfl, fun j hj => by
            have hj' : j < L := by simpa using hj
            rw [Nat.zero_add, hrow.cell hj', List.getD, List.getElem?_replicate, if_pos hj']
            rfl⟩
          have hmark := mark_ m (by omega)
          have HX : Hid (mk m = mk m) := rfl
          obtain ⟨X, hX⟩ : ∃ X, mk m = X := ⟨_, rfl⟩
          have HXX : Hid (mk m = X) := hX
          rw [hX] at ha hmark
          obtain ⟨wd, hwd⟩ : ∃ wd, wd = wr := ⟨_, rfl⟩
          subst hwd
          have HG : Hid (GS wd wc.heap.size vg ks gs ∧ Kp wc wd ∧ KS wc w.heap.size (.slice (some ⟨bk, 0, none⟩) n ck) ks n ∧ gs.length = m) := ⟨hgs, hkc, hks2, hlg⟩
          clear hv hrow hks hG hLn hX HX hks2 hgs hkc hlg
          have hlr : (List.replicate L X).length = L := by simp
          go_upto_region 29 with fail
          go_region_held3 (fun W' => W'.cell? ⟨bk, m, none⟩ = some (.slice (some ⟨G, 0, none⟩) L L)) (first | exact hcell | (refine kkeep (W := wd) ?_ hcell; ((repeat (first | with_reducible exact Kp.refl _ | with_reducible refine Kp.drew ?_ | with_reducible refine Kp.alloc ?_ _)); done)) | exact kkeep (W := wd) kf hcell | exact kkeep (W := wd) kf.drew hcell) (first | (go_at_call 25; refine (hmark _).mono ?_; rintro e w9 ⟨rfl, h9⟩; rw [h9]) | (refine if_app2 (by rfl) _ _ 35 rfl _ _ rfl rfl (app_full _ G L _ 1 X (List.replicate L X) hlr (by omega) (ha.grown ?kk) ?kc) ?_; (case kk => ((repeat (first | with_reducible exact Kp.refl _ | with_reducible refine Kp.drew ?_ | with_reducible refine Kp.alloc ?_ _)); done)); (case kc => first | exact mkcell _ _ _ | exact kkeep ((Kp.refl _).drew) (mkcell _ _ _)); rintro v1 w1 ⟨of, kf0⟩; have kf : Kp wd w1 := Kp.trans ?kd kf0; (case kd => ((repeat (first | with_reducible exact Kp.refl _ | with_reducible refine Kp.drew ?_ | with_reducible refine Kp.alloc ?_ _)); done)); have hof : Own w1 wd.heap.size v1 (List.replicate L X ++ [X]) := of.mono ?ke; (case ke => first | exact Nat.le_refl _ | simp)))
          all_goals (rw [← List.replicate_succ'] at hof)
          go_wp2_with fail
          go_loopw [15, 16] (fun a i wr => ∃ (v : Value) (j : Nat), v = a ∧ j ≤ 80 ∧ i = .int .i64 j ∧ Own wr wd.heap.size v (List.replicate (L + 1 + j) X) ∧ Kp wd wr) (fun _ i _ => 80 - (intOf i).toNat)
          case atStart => exact ⟨_, 0, rfl, Nat.zero_le _, rfl, hof, kf⟩
          case round =>
            clear hof kf
            obtain ⟨v, j, rfl, hj, rfl, hown, hkd⟩ := hrel
            by_cases cj : j < 80
            · obtain ⟨v', w2, hap, oap, kap⟩ := app_run (wr.alloc (.cells #[.int .u8 X] 5)) wd.heap.size v (List.replicate (L + 1 + j) X) [X] wr.heap.size 0 1 1 (hown.kp ((Kp.refl wr).alloc _)) (arr_one wr X) rfl (by rw [List.length_replicate]; omega) (Nat.le_trans (Below.size hkd) (by simp))
              have hk2 := kap wd (hkd.alloc _) (own_block hown)
              rw [← List.replicate_succ'] at oap
              clear hown hkd kap HG HN HL HXX HLn hcell
              go_wp2_with (first | (go_at_call 25; refine (hmark _).mono ?_; rintro e w9 ⟨rfl, h9⟩; rw [h9]) | (at_builtin; refine wpList_app _ (by rfl) _ _ 35 rfl _ _ _ _ rfl rfl hap ?_; clear hap))
              exact ⟨⟨_, j + 1, rfl, by omega, by go_num, oap, hk2⟩, by simp [intOf]; omega⟩
            · have hj80 : L + 1 + j = L + 81 := by omega
              rw [hj80] at hown
              obtain ⟨B, cb, fb, hv1, hB, -, hcb⟩ := own_row hown (by simp)
              obtain ⟨pb, cb', hv2, hab, -⟩ := hown.arr
              rw [List.length_replicate] at hv1 hv2
              subst hv1
              obtain rfl : pb = some ⟨B, 0, none⟩ := by simp at hv2; exact hv2.1.symm
              obtain ⟨hgs, hkc, hks2, hlg⟩ := HG.out
              obtain ⟨v2, w2, hap, oap, hgr, hat⟩ := appS_run (wr.alloc (.cells #[.slice (some ⟨B, 0, none⟩) (L + 81) cb] 35)) wc.heap.size vg gs [.slice (some ⟨B, 0, none⟩) (L + 81) cb] wr.heap.size 1 1 (hgs.1.kp (hkd.alloc _)) (fun j u hu => by
                match j, hu with
                | 0, hu => rw [mkcell]; simpa using hu) (fun u hu => by simp at hu; subst hu; rfl) rfl (by rw [hlg]; omega) (Nat.le_trans (Below.size (Kp.trans hkc hkd)) (by simp))
              have hg2 : GS w2 wc.heap.size v2 ks (gs ++ [.slice (some ⟨B, 0, none⟩) (L + 81) cb]) := by
                have := GS.push (i := m) (b := B) (c := cb) hgs hlg (hkd.alloc (.cells #[.slice (some ⟨B, 0, none⟩) (L + 81) cb] 35)) hgr (by rw [HLn.out]; exact oap) hat hB (by rw [HLn.out, HXX.out]; exact hab.grown ((Kp.refl _).alloc _))
                rw [HLn.out] at this
                exact this
              have hk2 : Kp wc w2 := ((Kp.trans hkc hkd).alloc _).grown hgr (fun k hk => (World.ownsRow.lt hgs.1 k hk).1)
              have hl2 : (gs ++ [Value.slice (some ⟨B, 0, none⟩) (L + 81) cb]).length = m + 1 := by rw [List.length_append, hlg]; rfl
              clear oap hgr hat hab hown hkd hgs hkc hks2 hlg HG HLn HXX HL HN hmark hcell
              go_wp2_with (first | (at_builtin; refine wpList_app _ (by rfl) _ _ 59 rfl _ _ _ _ rfl rfl hap ?_; clear hap))
              exact ⟨⟨_, m + 1, _, rfl, by omega, by go_num, hl2, hg2, hk2⟩, by simp [intOf]; omega⟩
        · have hgl : gs.length = n := by omega
          have hkw : Kp w wr := Kp.trans hkp hkc
          obtain ⟨pg, cg, hvg⟩ : ∃ pg cg, vg = .slice pg n cg := by
            obtain ⟨a, b, h, -⟩ := hgs.1.at
            rw [hgl] at h
            exact ⟨_, _, h⟩
          subst hvg
          have HG : Hid (GS wr wc.heap.size (.slice pg n cg) ks gs ∧ KS wr w.heap.size (.slice pk n ck) ks n ∧ gs.length = n) := ⟨hgs, hks, hgl⟩
          obtain ⟨we, hwe⟩ : ∃ we, we = wr := ⟨_, rfl⟩
          subst hwe
          clear hgs hks hgl hks2 hkp hkc hlg hm
          go_wp2_with fail
          go_loopw [17] (fun i wr => ∃ m : Nat, m ≤ n ∧ i = .int .i64 m ∧ Kp we wr) (fun i _ => n - (intOf i).toNat)
          case atStart => exact ⟨0, Nat.zero_le _, rfl, Kp.refl _⟩
          case round =>
            clear cm
            obtain ⟨m, hm, rfl, hke⟩ := hrel
            by_cases cm : m < n
            · obtain ⟨hgs, hks, hgl⟩ := HG.out
              obtain ⟨bk, c', hv, hcell⟩ := (hks.kp hke).slot (i := m) (by rw [HN.out]; exact cm)
              have hpk : pk = some ⟨bk, 0, none⟩ := by rw [HN.out] at hv; simp at hv; exact hv.1
              subst hpk
              obtain ⟨bg, c2', gb, d, hv2, hcell2, hcells⟩ := (hgs.kp hke).slot (i := m) (by omega)
              have hpg : pg = some ⟨bg, 0, none⟩ := by rw [hgl] at hv2; simp at hv2; exact hv2.1
              subst hpg
              obtain ⟨-, hL33, -, -, hrow⟩ := (hks.kp hke).2.1 m (by rw [HN.out]; exact cm)
              replace hrow := hrow cm
              obtain ⟨Gk, hGk⟩ : ∃ Gk, (ks.getD m (0, 0)).1 = Gk := ⟨_, rfl⟩
              obtain ⟨L, hLn⟩ : ∃ L, (ks.getD m (0, 0)).2 = L := ⟨_, rfl⟩
              rw [hGk, hLn] at hcell hrow
              rw [hLn] at hcell2 hcells hL33
              obtain ⟨M, hM⟩ : ∃ M, L + 81 = M := ⟨_, rfl⟩
              rw [hM] at hcell2 hcells
              have hML : L ≤ M := by omega
              have hM2 : M ≤ 200 := by omega
              have hmark := mark_ m (by omega)
              obtain ⟨X, hX⟩ : ∃ X, mk m = X := ⟨_, rfl⟩
              rw [hX] at hmark hrow hcells
              have hmarkK : ∀ W : World, Calls Try.prog 25 #[.int .i64 (m : Int)] W fun e w' => e = .returned (.int .u8 X) ∧ Kp W w' := fun W => (hmark W).mono fun e w' h => ⟨h.1, by rw [h.2]; exact Kp.refl _⟩
              obtain ⟨wf, hwf⟩ : ∃ wf, wf = wr := ⟨_, rfl⟩
              subst hwf
              have HC : Hid ((∀ j, j < L → wf.cell? ⟨Gk, j, none⟩ = some (.int .u8 X)) ∧ (∀ j, j < M → wf.cell? ⟨gb, j, none⟩ = some (.int .u8 X)) ∧ wf.cell? ⟨bk, m, none⟩ = some (.slice (some ⟨Gk, 0, none⟩) L L) ∧ wf.cell? ⟨bg, m, none⟩ = some (.slice (some ⟨gb, 0, none⟩) M d)) := ⟨fun j hj => hrow.cell hj, hcells, hcell, hcell2⟩
              clear hgs hks hgl hv hv2 hrow hGk hLn hM hX hcells hmark hcell hcell2
              go_wp2_with fail
              go_loopw [18] (fun a wr => ∃ t : Nat, t ≤ M ∧ a = .int .i64 t ∧ Kp wf wr) (fun a _ => M - (intOf a).toNat)
              case atStart => exact ⟨0, Nat.zero_le _, rfl, Kp.refl _⟩
              case round =>
                obtain ⟨t, ht, rfl, hkf⟩ := hrel
                obtain ⟨y1, y2, y3, y4⟩ := HC.out
                have c1 := kkeep hkf y4
                have c3 := kkeep hkf y3
                by_cases ct : t < M
                · have c2 := kkeep hkf (y2 t ct)
                  by_cases cl : t < L
                  · have c4 := kkeep hkf (y1 t cl)
                    clear HC y1 y2 y3 y4 HG HN HL
                    go_wp2_with fail
                    refine Fq.wp_region_grow (by kernel_rfl) (by kernel_rfl) (fun ι _ G hG hall => ?_)
                    have cc0 : ∀ n, (G n).cell? ⟨bg, m, none⟩ = some (.slice (some ⟨gb, 0, none⟩) M d) := fun n => Fq.gkeep (hG n) c1
                    have cc1 : ∀ n, (G n).cell? ⟨gb, t, none⟩ = some (.int .u8 X) := fun n => Fq.gkeep (hG n) c2
                    have cc2 : ∀ n, (G n).cell? ⟨bk, m, none⟩ = some (.slice (some ⟨Gk, 0, none⟩) L L) := fun n => Fq.gkeep (hG n) c3
                    have cc3 : ∀ n, (G n).cell? ⟨Gk, t, none⟩ = some (.int .u8 X) := fun n => Fq.gkeep (hG n) c4
                    repeat (go_big_quiet_step (first | (go_at_call 25; exact (hmarkK _).mono (fun e w' h => ⟨h.1, hall _ (Fq.gtrans (hG _) h.2)⟩))))
                    refine wpQuiet_nil ?_
                    rintro _ ⟨nq, rfl⟩
                    have gq : Kp wr (G nq) := hG nq
                    clear cc0 cc1 cc2 cc3 hall hG
                    go_wp2_with fail
                    exact ⟨⟨t + 1, by omega, by go_num, Kp.trans hkf gq⟩, by simp [intOf]; omega⟩
                  · clear HC y1 y2 y3 y4 HG HN HL
                    go_wp2_with fail
                    refine Fq.wp_region_grow (by kernel_rfl) (by kernel_rfl) (fun ι _ G hG hall => ?_)
                    have cc0 : ∀ n, (G n).cell? ⟨bg, m, none⟩ = some (.slice (some ⟨gb, 0, none⟩) M d) := fun n => Fq.gkeep (hG n) c1
                    have cc1 : ∀ n, (G n).cell? ⟨gb, t, none⟩ = some (.int .u8 X) := fun n => Fq.gkeep (hG n) c2
                    have cc2 : ∀ n, (G n).cell? ⟨bk, m, none⟩ = some (.slice (some ⟨Gk, 0, none⟩) L L) := fun n => Fq.gkeep (hG n) c3
                    repeat (go_big_quiet_step (first | (go_at_call 25; exact (hmarkK _).mono (fun e w' h => ⟨h.1, hall _ (Fq.gtrans (hG _) h.2)⟩))))
                    refine wpQuiet_nil ?_
                    rintro _ ⟨nq, rfl⟩
                    have gq : Kp wr (G nq) := hG nq
                    clear cc0 cc1 cc2 hall hG
                    go_wp2_with fail
                    exact ⟨⟨t + 1, by omega, by go_num, Kp.trans hkf gq⟩, by simp [intOf]; omega⟩
                · clear HC y1 y2 y3 y4 HG HN HL
                  go_wp2_with fail
                  exact ⟨⟨m + 1, by omega, by go_num, Kp.trans hke hkf⟩, by simp [intOf]; omega⟩
            · have hkz := Kp.trans hkw hke
              clear HG HN hke hkw
              by_cases cN : N = 0
              · subst cN
                clear HL
                go_wp2_with fail
                refine Fq.wp_region_grow (by kernel_rfl) (by kernel_rfl) (fun ι _ G hG hall => ?_)
                repeat (go_big_quiet_step (fail))
                refine wpQuiet_nil ?_
                rintro _ ⟨nq, rfl⟩
                have gq : Kp wr (G nq) := hG nq
                clear hall hG
                go_wp2_with fail
                exact bodyPost_ret (v := .bool true) (by simp [results, Try.results6, go_sem]) rfl ⟨rfl, Kp.trans hkz gq⟩
              · obtain ⟨hx, hN, hw⟩ := HL.out
                obtain ⟨b, off, rfl, hc2⟩ := hx.at (k := 0) (by omega)
                have e1 : wr.cell? ⟨b, off, none⟩ = some (.int .u64 (((ls.getD 0 (0, 0)).1 : Nat) : Int)) := kkeep hkz (by have := (hc2 0 (by omega)).1; rwa [Nat.zero_mul, Nat.add_zero] at this)
                have e2 : wr.cell? ⟨b, off + 1, none⟩ = some (.int .u64 (((ls.getD 0 (0, 0)).2 : Nat) : Int)) := kkeep hkz (by have := (hc2 0 (by omega)).2; rwa [Nat.zero_mul, Nat.add_zero] at this)
                have hq := hw 0
                have hin := in9_ (ls.getD 0 (0, 0)).1 (ls.getD 0 (0, 0)).2
                have hput := putn_ (ls.getD 0 (0, 0)).1 (ls.getD 0 (0, 0)).2 hq.1 hq.2
                have hrp := rputn_ (ls.getD 0 (0, 0)).1 (ls.getD 0 (0, 0)).2 hq.1 hq.2
                have hlf := fm_len ((ls.getD 0 (0, 0)).1, (ls.getD 0 (0, 0)).2)
                generalize (ls.getD 0 (0, 0)).1 = Y1 at *
                generalize (ls.getD 0 (0, 0)).2 = Y2 at *
                generalize fm (Y1, Y2) = xs at *
                have HS : ∀ (p q : Option Addr) (c d : Nat) (W : World), Arr W p xs → Arr W q xs → Calls Try.prog 22 #[.slice p 16 c, .slice q 16 d] W fun e w' => e = .returned (.bool true) ∧ Kp W w' := by
                  intro p q c d W h1 h2
                  have := same_ p q c d xs xs W h1 h2 (by rw [hlf]; omega)
                  rw [hlf, decide_eq_true rfl] at this
                  exact this
                generalize (Y1 : Int) = Z1 at e1 hin hrp
                generalize (Y2 : Int) = Z2 at e2 hin hrp
                have f0 : ((N : Int) == 0) = false := by simp; omega
                have f1 : (0 : Int) < (N : Int) := by omega
                have f2 : 0 < N := by omega
                clear hq hc2 hx hN hw HL
                go_wp2_with fail
                go_region_held3 (fun W' => W'.cell? ⟨b, off, none⟩ = some (.int .u64 Z1) ∧ W'.cell? ⟨b, off + 1, none⟩ = some (.int .u64 Z2)) (refine ⟨kkeep (W := wr) ?_ e1, kkeep (W := wr) ?_ e2⟩ <;> ((repeat (first | with_reducible exact k4 | with_reducible exact k3 | with_reducible exact k2 | with_reducible exact k1 | with_reducible exact Kp.refl _ | with_reducible refine Kp.drew ?_ | with_reducible refine Kp.alloc ?_ _)); done)) (first | (go_at_call 11; refine (hin _).mono ?_; rintro e w1 ⟨rfl, g1⟩; have k1 : Kp wr w1 := Kp.trans ?q1 g1; (case q1 => ((repeat (first | with_reducible exact k4 | with_reducible exact k3 | with_reducible exact k2 | with_reducible exact k1 | with_reducible exact Kp.refl _ | with_reducible refine Kp.drew ?_ | with_reducible refine Kp.alloc ?_ _)); done))) | (go_at_call 10; refine (hput _).mono ?_; rintro e w2 ⟨gp, rfl, hgp, hRp, g2⟩; have k2 : Kp wr w2 := Kp.trans ?q2 g2; (case q2 => ((repeat (first | with_reducible exact k4 | with_reducible exact k3 | with_reducible exact k2 | with_reducible exact k1 | with_reducible exact Kp.refl _ | with_reducible refine Kp.drew ?_ | with_reducible refine Kp.alloc ?_ _)); done)); have a2 := arr_all hRp hlf) | (go_at_call 24; refine (hrp _).mono ?_; rintro e w3 ⟨v3, rfl, o3, g3⟩; obtain ⟨p3, c3, hv3, a3, -⟩ := o3.arr; rw [hlf] at hv3; subst hv3; have k3 : Kp wr w3 := Kp.trans ?q3 g3; (case q3 => ((repeat (first | with_reducible exact k4 | with_reducible exact k3 | with_reducible exact k2 | with_reducible exact k1 | with_reducible exact Kp.refl _ | with_reducible refine Kp.drew ?_ | with_reducible refine Kp.alloc ?_ _)); done)); have a23 := a2.grown (Kp.trans (Kp.refl w2) (by first | exact g3 | exact Kp.trans ((Kp.refl _).drew) g3))) | (go_at_call 22; refine (HS _ _ _ _ _ (a23.grown (by first | exact Kp.refl _ | exact (Kp.refl _).drew)) (a3.grown (by first | exact Kp.refl _ | exact (Kp.refl _).drew))).mono ?_; rintro e w4 ⟨rfl, g4⟩; have k4 : Kp wr w4 := Kp.trans ?q4 g4; (case q4 => ((repeat (first | with_reducible exact k4 | with_reducible exact k3 | with_reducible exact k2 | with_reducible exact k1 | with_reducible exact Kp.refl _ | with_reducible refine Kp.drew ?_ | with_reducible refine Kp.alloc ?_ _)); done))))
                all_goals (
                  go_wp2_with fail
                  refine bodyPost_ret (v := .bool true) (by simp [results, Try.results6, go_sem]) rfl ⟨rfl, Kp.trans hkz ?_⟩
                  ((repeat (first | with_reducible exact k4 | with_reducible exact k3 | with_reducible exact k2 | with_reducible exact k1 | with_reducible exact Kp.refl _ | with_reducible refine Kp.drew ?_ | with_reducible refine Kp.alloc ?_ _)); done))
end B8
end Go.Proofs.Ytcckdceijgdgoaa
