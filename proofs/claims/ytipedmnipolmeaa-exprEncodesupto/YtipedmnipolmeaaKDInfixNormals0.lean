import Derived.Test.YtipedmnipolmeaaKXRe
import Derived.Test.YtipedmnipolmeaaKXRg
import Derived.WalkKit
import Derived.ProofKit
import Derived.RowKit3
import Derived.WalkSpells
import Derived.StillTactics
import Derived.Deep.QuietTactic
import Derived.BigQuiet
import Derived.Below
import Derived.Deep.OwnRows
import Derived.Deep.CutRange
import Derived.Deep.DeepCutAuto
import Derived.OwnWalk
import Derived.Deep.RegionHeld3
import Derived.OneCell
import Derived.Laws.OwnMore
import Derived.Maps.AppendAt
import Derived.Deep.AppendLies
import Derived.OrdersHeld
import Derived.Deep.RegionHeld
namespace Go.Proofs.Ytipedmnipolmeaa
open Go.RowKit
open Go
namespace X7
set_option linter.unusedVariables false
theorem oi_lt {T : TypeId} {w : World} {base : Nat} {v : Value} {L : List I5} (h : OI T w base v L) : ∀ k, v.ownBlock = some k → k < w.heap.size := fun k hk => (World.ownsRow.lt h k hk).2
end X7
end Go.Proofs.Ytipedmnipolmeaa
namespace Go.Proofs.Ytipedmnipolmeaa
open Go.RowKit
open Go
namespace X7
set_option linter.unusedVariables false
set_option maxRecDepth 20000 in
set_option maxHeartbeats 1000000 in
theorem out9_ (a b : Nat) (w : World) : Calls Try.prog 58 #[.agg #[.float .f64 a, .float .f64 b]] w fun e w' => e = .returned (.agg #[.int .u64 ((a : Nat) : Int), .int .u64 ((b : Nat) : Int)]) ∧ Kp w w' := by
  have h1 := Fq.fb64 a
  have h2 := Fq.fb64 b
  generalize (a : Int) = X at h1 ⊢
  generalize (b : Int) = Y at h2 ⊢
  go_enter Try.func58, Try.ntmps58
  go_wp2
  go_region_held3 (fun w' => w'.cell? ⟨w.heap.size, 0, none⟩ = some (.float .f64 a) ∧ w'.cell? ⟨w.heap.size, 1, none⟩ = some (.float .f64 b)) (simp [go_sem, World.cell?_alloc_past]) (fail)
  go_wp2
  exact bodyPost_ret (v := .agg #[.int .u64 X, .int .u64 Y]) (by simp [results, Try.results58, go_sem]) rfl ⟨rfl, (by repeat (with_reducible (first | assumption | exact Kp.refl _ | apply Kp.drew | apply Kp.alloc | apply Kp.drewN | (refine Kp.setCell ?_ (by first | omega | (simp <;> omega)) _) | (refine Kp.trans ?_ (by assumption)))))⟩
end X7
end Go.Proofs.Ytipedmnipolmeaa
namespace Go.Proofs.Ytipedmnipolmeaa
open Go.RowKit
open Go
namespace X7
set_option linter.unusedVariables false
theorem infJ0 : (Try.prog.info? 66).map (fun i => (i.zero, i.size, i.bytes)) = some (some (.agg #[.int .u64 0, .int .u64 0]), 2, 16) := by kernel_rfl
theorem infJ : ∃ i, Try.prog.info? 66 = some i ∧ i.zero = some (.agg #[.int .u64 0, .int .u64 0]) ∧ i.size = 2 ∧ i.bytes = 16 := info_parts infJ0
theorem infM0 : (Try.prog.info? 61).map (fun i => (i.zero, i.size, i.bytes)) = some (some (.agg #[.int .i64 0, .int .i64 0, .int .i64 0, .int .i64 0, .int .i64 0]), 5, 40) := by kernel_rfl
theorem infM : ∃ i, Try.prog.info? 61 = some i ∧ i.zero = some (.agg #[.int .i64 0, .int .i64 0, .int .i64 0, .int .i64 0, .int .i64 0]) ∧ i.size = 5 ∧ i.bytes = 40 := info_parts infM0
set_option maxRecDepth 20000 in
set_option maxHeartbeats 1000000 in
theorem outs_ (p : Option Addr) (c : Nat) (ps : List (Nat × Nat)) (w : World) (hx : AG FLV w p ps) (lx : ps.length ≤ 1048576) :
    Calls Try.prog 37 #[.slice p ps.length c] w fun e w' => ∃ v, e = .returned v ∧ OG ULV 66 w' w.heap.size v ps ∧ Kp w w' := by
  obtain ⟨N, hN⟩ : ∃ N, N = ps.length := ⟨_, rfl⟩
  rw [← hN] at lx ⊢
  have HX : Hid (AG FLV w p ps) := hx
  have HN : Hid (N = ps.length) := hN
  obtain ⟨i0, hi0, hi1, hi2, hi3⟩ := infJ
  clear hN hx
  go_enter Try.func37, Try.ntmps37
  go_wp2
  go_loopw [3, 4] (fun a i wr => ∃ (v : Value) (j : Nat), v = a ∧ j ≤ N ∧ i = .int .i64 j ∧ OG ULV 66 wr w.heap.size v (ps.take j) ∧ Kp w wr) (fun _ i _ => N - (intOf i).toNat)
  case atStart => exact ⟨_, 0, rfl, Nat.zero_le _, rfl, by simpa using OG.nil ULV 66 w w.heap.size, Kp.refl _⟩
  case round =>
    obtain ⟨v, j, rfl, hj, rfl, hown, hkp⟩ := hrel
    have hN := HN.out
    by_cases cj : j < N
    · obtain ⟨b, off, rfl, hc2⟩ := HX.out.at (k := j) (by omega)
      have e1 : wr.cell? ⟨b, off + j * 2, none⟩ = some (.float .f64 (ps.getD j (0, 0)).1) := kkeep hkp (hc2 j (by omega)).1
      have e2 : wr.cell? ⟨b, off + j * 2 + 1, none⟩ = some (.float .f64 (ps.getD j (0, 0)).2) := kkeep hkp (hc2 j (by omega)).2
      have hpush := take_push2 ps j (by omega)
      have hlen : (ps.take j).length = j := by rw [List.length_take]; omega
      have hin := out9_ (ps.getD j (0, 0)).1 (ps.getD j (0, 0)).2
      obtain ⟨Y1, hY1⟩ : ∃ Y, Y = (ps.getD j (0, 0)).1 := ⟨_, rfl⟩
      obtain ⟨Y2, hY2⟩ : ∃ Y, Y = (ps.getD j (0, 0)).2 := ⟨_, rfl⟩
      rw [← hY1] at e1 hpush hin
      rw [← hY2] at e2 hpush hin
      have HP : Hid (ps.take j ++ [(Y1, Y2)] = ps.take (j + 1)) := hpush
      clear hc2 hY1 hY2 HX HN hpush
      clear hN
      go_wp2_with (first | (go_at_call 58; refine (hin _).mono ?_; rintro e w1 ⟨rfl, g1⟩; have hk1 := Kp.trans hkp g1; have hown1 := hown.kp g1; have hob := og_block hown1; have hsz := hk1.size; have hown' : w1.ownsRow w.heap.size 66 2 v ((ps.take j).length) (flat ULV (ps.take j)) := hown1) | (at_builtin; refine wpList_append_own _ rfl _ _ 22 rfl w.heap.size 66 i0 (.agg #[.int .u64 0, .int .u64 0]) 2 16 Try.underlying22 hi0 hi1 hi2 hi3 rfl (by decide) _ _ _ rfl (hown'.alloc _) ⟨w1.heap.size, 0, none⟩ 1 1 [.int .u64 (Y1 : Int), .int .u64 (Y2 : Int)] rfl rfl ?c1 ?c2 ?c3 ?c4 ?c5 ?_))
      case c1 =>
        intro j' u hj'
        match j', hj' with
        | 0, hj' => simp at hj'; subst hj'; simp [Addr.add]
        | 1, hj' => simp at hj'; subst hj'; simp [Addr.add]
      case c2 => intro u hu; simp at hu; rcases hu with rfl | rfl <;> rfl
      case c3 => unfold maxLen; omega
      case c4 => omega
      case c5 => simp; omega
      intro v' w2 hown2 hgrow _
      have hO : OG ULV 66 w2 w.heap.size v' (ps.take (j + 1)) := by
        rw [← HP.out]
        refine OG.push ?_
        rw [hlen]
        exact hown2
      have hK2 : Kp w w2 := (hk1.alloc _).grown hgrow hob
      clear hown2 hgrow hown' hkp hob e1 e2 hsz HP hlen hk1 hown1 hown g1
      go_wp2
      exact ⟨⟨_, j + 1, rfl, by omega, by go_num, hO, hK2⟩, by simp [intOf]; omega⟩
    · have hjk : j = N := by omega
      rw [List.take_of_length_le (by omega)] at hown
      clear hN HN HX
      go_wp2
      exact bodyPost_ret (v := v) (by simp [results, Try.results37, go_sem] <;> simp only [*]) rfl ⟨_, rfl, hown, hkp⟩
theorem outs2_ (p : Option Addr) (c : Nat) (ps : List (Nat × Nat)) (w : World) (hx : AG FLV w p ps) (lx : ps.length ≤ 1048576) :
    Calls Try.prog 37 #[.slice p ps.length c] w fun e w' => ∃ pa ca, e = .returned (.slice pa ps.length ca) ∧ OG ULV 66 w' w.heap.size (.slice pa ps.length ca) ps ∧ Kp w w' := by
  refine (outs_ p c ps w hx lx).mono ?_
  rintro e w' ⟨v, rfl, ho, hk⟩
  obtain ⟨pa, ca, rfl, -, -⟩ := ho.arr
  exact ⟨pa, ca, rfl, ho, hk⟩
end X7
end Go.Proofs.Ytipedmnipolmeaa
namespace Go.Proofs.Ytipedmnipolmeaa
open Go.RowKit
open Go
namespace X7
set_option linter.unusedVariables false
set_option maxRecDepth 20000 in
set_option maxHeartbeats 4000000 in
theorem readq_ (V : Int) (p q : Option Addr) (c d : Nat) (ps : List (Nat × Nat)) (L : List I5) (w : World) (hx : AG FLV w p ps) (hy : AI w q L) (lx : ps.length ≤ 1048576) (ly : L.length ≤ 1048576) :
    Calls Try.prog 15 #[.agg #[.int .i64 V, .slice p ps.length c, .slice q L.length d]] w fun e w' => ∃ vc vk, e = .returned (.agg #[.int .i64 V, vc, vk]) ∧ OG ULV 66 w' w.heap.size vc ps ∧ OI 61 w' w.heap.size vk L ∧ Kp w w' := by
  obtain ⟨N, hN⟩ : ∃ N, N = ps.length := ⟨_, rfl⟩
  obtain ⟨M, hM⟩ : ∃ M, M = L.length := ⟨_, rfl⟩
  have hbx := fun (W : World) (g : Kp w W) => outs2_ p c ps W (hx.grown g) lx
  rw [← hN] at lx hbx ⊢
  rw [← hM] at ly ⊢
  have HY : Hid (AI w q L) := hy
  have HN : Hid (N = ps.length) := hN
  have HM : Hid (M = L.length) := hM
  obtain ⟨i0, hi0, hi1, hi2, hi3⟩ := infM
  clear hN hx hy hM
  go_enter Try.func15, Try.ntmps15
  go_upto_region 1 with fail
  have sx : H3c ((w.alloc (.cells #[.int .i64 V, .slice p N c, .slice q M d] 32)).alloc (.cells #[.int .i64 0, .slice none 0 0, .slice none 0 0] 25)) w.heap.size (.int .i64 V) (.slice p N c) (.slice q M d) := H3c.keep (H3c.new w (.int .i64 V) (.slice p N c) (.slice q M d) 32) ((Kp.refl _).alloc _)
  have sr : H3c ((w.alloc (.cells #[.int .i64 V, .slice p N c, .slice q M d] 32)).alloc (.cells #[.int .i64 0, .slice none 0 0, .slice none 0 0] 25)) (w.heap.size + 1) (.int .i64 0) (.slice none 0 0) (.slice none 0 0) := by
    have h := H3c.new (w.alloc (.cells #[.int .i64 V, .slice p N c, .slice q M d] 32)) (.int .i64 0) (.slice none 0 0) (.slice none 0 0) 25
    rw [show (w.alloc (.cells #[.int .i64 V, .slice p N c, .slice q M d] 32)).heap.size = w.heap.size + 1 from by simp] at h
    exact h
  have kw : Kp w ((w.alloc (.cells #[.int .i64 V, .slice p N c, .slice q M d] 32)).alloc (.cells #[.int .i64 0, .slice none 0 0, .slice none 0 0] 25)) := ((Kp.refl w).alloc _).alloc _
  have hsw : w.heap.size + 1 < ((w.alloc (.cells #[.int .i64 V, .slice p N c, .slice q M d] 32)).alloc (.cells #[.int .i64 0, .slice none 0 0, .slice none 0 0] 25)).heap.size := by simp
  generalize ((w.alloc (.cells #[.int .i64 V, .slice p N c, .slice q M d] 32)).alloc (.cells #[.int .i64 0, .slice none 0 0, .slice none 0 0] 25)) = W at sx sr kw hsw ⊢
  obtain ⟨x0, x1, x2, x3, x4, x5⟩ := id sx
  go_cut [3] (fun s3 wx => ∃ (g : Nat) (pa : Option Addr) (ca : Nat), s3 = .pointer (some ⟨g, 0, none⟩) ∧ H3c wx g (.int .i64 V) (.slice pa N ca) (.slice none 0 0) ∧ Kp W wx ∧ OG ULV 66 wx W.heap.size (.slice pa N ca) ps ∧ (∀ k, (Value.slice pa N ca).ownBlock = some k → k ≠ g) ∧ W.heap.size ≤ g)
  case first =>
    go_region_held3 (fun w' => w'.cell? ⟨w.heap.size, 0, none⟩ = some (.int .i64 V) ∧ w'.cell? ⟨w.heap.size, 1, none⟩ = some (.slice p N c) ∧ w'.cell? ⟨w.heap.size, 2, none⟩ = some (.slice q M d)) (first | (with_reducible exact ⟨x0, x1, x2⟩) | (with_reducible exact ⟨cb0_0, cb0_1, cb0_2⟩) | (refine ⟨(kkeep (W := W) ?_ x0), (kkeep (W := W) ?_ x1), (kkeep (W := W) ?_ x2)⟩ <;> ((repeat (first | with_reducible exact Kp.refl _ | with_reducible apply Kp.drew | with_reducible apply Kp.alloc)); done)) | (refine ⟨(kkeep (W := w1) ?_ cb0_0), (kkeep (W := w1) ?_ cb0_1), (kkeep (W := w1) ?_ cb0_2)⟩ <;> ((repeat (first | with_reducible exact Kp.refl _ | with_reducible apply Kp.drew | with_reducible apply Kp.alloc)); done)) | (refine ⟨?_, ?_, ?_⟩ <;> (refine ((World.cell?_setCell_far _ _ _ _ ?_).trans ((World.cell?_setCell_far _ _ _ _ ?_).trans ((World.cell?_setCell_far _ _ _ _ ?_).trans ?_))) <;> first | assumption | (have h90 := cell_lt x0; have h91 := cell_lt x1; have h92 := cell_lt x2; have h80 := Below.size KB0; first | omega | (simp <;> omega))))) (first | (go_at_call 37; refine (hbx _ (Kp.trans kw (by (repeat (first | exact Kp.refl _ | apply Kp.drew | apply Kp.alloc)); done))).mono ?_; rintro e w1 ⟨pa, ca, rfl, o1, g1⟩; have KB0 : Kp W w1 := Kp.trans (by (repeat (first | exact Kp.refl _ | apply Kp.drew | apply Kp.alloc)); done) g1; have cb0_0 := kkeep KB0 x0; have cb0_1 := kkeep KB0 x1; have cb0_2 := kkeep KB0 x2; first | ((with_reducible have hb9 := (H3c.keep (H3c.newD W (.int .i64 0) (.slice none 0 0) (.slice none 0 0) 25) g1)); obtain ⟨mb0, mb1, mb2, mb3, mb4, mb5⟩ := id hb9) | skip))
    all_goals go_wp2_with fail
    all_goals (
      go_meet
      refine ⟨_, pa, ca, rfl, ?_, ?_, ?_, ?_, ?_⟩
      · first | (with_reducible exact H3c.put hb9 _ _ _) | (with_reducible exact H3c.put (H3c.new w1 (.int .i64 0) (.slice none 0 0) (.slice none 0 0) 25) _ _ _) | (with_reducible exact H3c.new w1 _ _ _ 25) | (unfold H3c; simp [go_sem]; done)
      · have h80 := Below.size KB0
        first | (with_reducible exact (Kp.alloc KB0 _)) | ((with_reducible refine (Kp.setCell (Kp.setCell (Kp.setCell KB0 ?_ _) ?_ _) ?_ _)) <;> first | omega | (simp <;> omega)) | ((with_reducible refine (Kp.setCell (Kp.setCell (Kp.setCell (Kp.alloc KB0 _) ?_ _) ?_ _) ?_ _)) <;> first | omega | (simp <;> omega))
      · have h80 := Below.size KB0
        first | (with_reducible exact OG.mono (OG.kp o1 ((Kp.refl _).alloc _)) (by simp)) | (exact OG.mono (og_sets3 o1 (fun g hg => by have := og_block o1 g hg; simp at this; omega) _ _ _) (by simp))
      · intro k hk
        have h1 := og_block o1 k hk
        have h2 := og_lt o1 k hk
        simp at h1 h2 ⊢
        omega
      · have h80 := Below.size KB0
        first | exact Nat.le_refl _ | exact h80)
  case rest =>
    obtain ⟨B3, pa, ca, rfl, sb, kc, ho, hne, hge⟩ := hcut
    rename_i wc
    have sx := H3c.keep sx kc
    have sr := H3c.keep sr kc
    have kw := kw.trans kc
    have hB3 := sb.lt
    have hvS := og_lt ho
    have hvB := og_block ho
    have hkS := kc.size
    obtain ⟨S, hS⟩ : ∃ S, S = wc.heap.size := ⟨_, rfl⟩
    rw [← hS] at hB3 hvS hkS
    clear kc x0 x1 x2 x3 x4 x5 hbx
    have HH : Hid (w.heap.size + 1 < B3 ∧ B3 < S ∧ (∀ k, (Value.slice pa N ca).ownBlock = some k → k ≠ B3 ∧ k < S ∧ w.heap.size + 1 < k) ∧ S = wc.heap.size) := ⟨by omega, hB3, fun k hk => ⟨hne k hk, hvS k hk, by have := hvB k hk; omega⟩, hS⟩
    have HI : Hid (H3c wc w.heap.size (.int .i64 V) (.slice p N c) (.slice q M d) ∧ H3c wc (w.heap.size + 1) (.int .i64 0) (.slice none 0 0) (.slice none 0 0) ∧ H3c wc B3 (.int .i64 V) (.slice pa N ca) (.slice none 0 0) ∧ OG ULV 66 wc w.heap.size (.slice pa N ca) ps ∧ Kp w wc) := ⟨sx, sr, sb, ho.mono (by omega), kw⟩
    clear hne hvS hvB hkS hB3 hge hsw hS sx sr sb ho kw
    go_wp2
    go_loopw [4, 5] (fun s4 s5 wr => ∃ (i : Nat) (pk : Option Addr) (ck : Nat), s4 = .int .i64 i ∧ i ≤ M ∧ H3c wr w.heap.size (.int .i64 V) (.slice p N c) (.slice q M d) ∧ H3c wr (w.heap.size + 1) (.int .i64 0) (.slice none 0 0) (.slice none 0 0) ∧ H3c wr B3 (.int .i64 V) (.slice pa N ca) (.slice pk i ck) ∧ OG ULV 66 wr w.heap.size (.slice pa N ca) ps ∧ OI 61 wr S (.slice pk i ck) (L.take i) ∧ Kp w wr ∧ S ≤ wr.heap.size) (fun s4 _ _ => M - (intOf s4).toNat)
    case atStart => exact ⟨0, none, 0, rfl, Nat.zero_le _, HI.out.1, HI.out.2.1, HI.out.2.2.1, HI.out.2.2.2.1, OI.nil _ _ _, HI.out.2.2.2.2, by rw [HH.out.2.2.2]; exact Nat.le_refl _⟩
    case round =>
      obtain ⟨i, pk, ck, rfl, hi, sx, sr, sb, ho, hown, hkp, hSz⟩ := hrel
      clear HI
      have hM := HM.out
      by_cases ci : i < M
      · obtain ⟨b, off, rfl, hc5⟩ := HY.out.at (k := i) (by omega)
        obtain ⟨e0, e1, e2, e3, e4⟩ := hc5 i (by omega)
        have hpush := take_push5 L i (by omega)
        have hlen : (L.take i).length = i := by rw [List.length_take]; omega
        have HL2 : Hid ((L.take (i + 1)).length = i + 1) := by show _ = _; rw [List.length_take]; omega
        obtain ⟨⟨x0, x1, x2, x3, x4⟩, hX⟩ : ∃ X, X = L.getD i D5 := ⟨_, rfl⟩
        rw [← hX] at e0 e1 e2 e3 e4 hpush
        simp only at e0 e1 e2 e3 e4
        replace e0 := kkeep hkp e0
        replace e1 := kkeep hkp e1
        replace e2 := kkeep hkp e2
        replace e3 := kkeep hkp e3
        replace e4 := kkeep hkp e4
        have HP : Hid (L.take i ++ [(x0, x1, x2, x3, x4)] = L.take (i + 1)) := hpush
        have hown' : wr.ownsRow S 61 5 (.slice pk i ck) ((L.take i).length) (flat5 (L.take i)) := hown
        obtain ⟨a0, a1, a2, a3, a4, a5⟩ := id sx
        have kA : Kp wr (wr.alloc (.cells #[.int .i64 x0, .int .i64 x1, .int .i64 x2, .int .i64 x3, .int .i64 x4] 62)) := (Kp.refl wr).alloc _
        obtain ⟨b0, b1, b2, b3, b4, b5⟩ := id (H3c.keep sb kA)
        clear hc5 hX HY HM hpush hM kA
        go_wp2_with (first | (at_builtin; refine wpList_append_own _ rfl _ _ 23 rfl S 61 i0 (.agg #[.int .i64 0, .int .i64 0, .int .i64 0, .int .i64 0, .int .i64 0]) 5 40 Try.underlying23 hi0 hi1 hi2 hi3 rfl (by decide) _ _ _ rfl ((hown'.alloc _).alloc _) ⟨wr.heap.size + 1, 0, none⟩ 1 1 [.int .i64 x0, .int .i64 x1, .int .i64 x2, .int .i64 x3, .int .i64 x4] rfl rfl ?c1 ?c2 ?c3 ?c4 ?c5 ?_))
        case c1 =>
          intro j' u hj'
          match j', hj' with
          | 0, hj' => simp at hj'; subst hj'; simp [Addr.add]
          | 1, hj' => simp at hj'; subst hj'; simp [Addr.add]
          | 2, hj' => simp at hj'; subst hj'; simp [Addr.add]
          | 3, hj' => simp at hj'; subst hj'; simp [Addr.add]
          | 4, hj' => simp at hj'; subst hj'; simp [Addr.add]
        case c2 => intro u hu; simp at hu; rcases hu with rfl | rfl | rfl | rfl | rfl <;> rfl
        case c3 => unfold maxLen; omega
        case c4 => omega
        case c5 => simp; omega
        intro v' w2 hown2 hgrow _
        have hO : OI 61 w2 S v' (L.take (i + 1)) := by
          rw [← HP.out]
          refine OI.push ?_
          rw [hlen]
          exact hown2
        have bl : Below S wr w2 := Below.grown (Below.alloc (Below.alloc (Below.refl S wr) hSz _) (by simp; omega) _) hgrow (by simp; omega) (oi_block hown)
        have kp2 : Kp w w2 := Kp.grown ((hkp.alloc _).alloc _) hgrow (fun k hk => by have h1 := oi_block hown k hk; have h2 := HH.out; omega)
        have hS2 : S ≤ w2.heap.size := Below.size bl |> fun h => by omega
        obtain ⟨pk2, ck2, rfl, -, -, -⟩ := hO.arr
        have hlen2 := HL2.out
        rw [hlen2] at hO ⊢
        have sx2 := sx.bel bl (by have := HH.out; omega)
        have sr2 := sr.bel bl (by have := HH.out; omega)
        have sb2 := sb.bel bl HH.out.2.1
        have ho2 := OG.bel ho bl (fun g hg => (HH.out.2.2.1 g hg).2.1)
        clear hown hown' hown2 hgrow bl hkp hSz ho sx sr sb a0 a1 a2 a3 a4 a5 b0 b1 b2 b3 b4 b5 HP hlen hlen2 e0 e1 e2 e3 e4
        obtain ⟨b0, b1, b2, b3, b4, b5⟩ := id sb2
        go_wp2
        have hh := HH.out
        refine ⟨⟨i + 1, pk2, ck2, by go_num, by omega, H3c.far1 sx2 _ (show B3 ≠ w.heap.size by omega) _, H3c.far1 sr2 _ (show B3 ≠ w.heap.size + 1 by omega) _, H3c.set2 sb2 _, OG.setNe ho2 (fun g hg => (hh.2.2.1 g hg).1) _, OI.setNe hO (fun g hg => by have := oi_block hO g hg; omega) _, kp2.setCell (show w.heap.size ≤ B3 by omega) _, ?_⟩, by simp [intOf]; omega⟩
        simpa using hS2
      · have hjk : i = M := by omega
        rw [List.take_of_length_le (by omega)] at hown
        subst hjk
        have hh := HH.out
        have hO2 : OI 61 wr S (.slice pk i ck) L := hown
        have HZ : Hid ((∀ k, (Value.slice pk i ck).ownBlock = some k → S ≤ k) ∧ H3c wr (w.heap.size + 1) (.int .i64 0) (.slice none 0 0) (.slice none 0 0) ∧ OG ULV 66 wr w.heap.size (.slice pa N ca) ps ∧ OI 61 wr S (.slice pk i ck) L ∧ Kp w wr ∧ S ≤ wr.heap.size) := ⟨oi_block hown, sr, ho, hO2, hkp, hSz⟩
        obtain ⟨a0, a1, a2, a3, a4, a5⟩ := id sx
        obtain ⟨b0, b1, b2, b3, b4, b5⟩ := id sb
        obtain ⟨r0, r1, r2, r3, r4, r5⟩ := id sr
        clear HY HM hown hM ho hO2 hkp hSz hh hi ci
        go_wp2
        have hh := HH.out
        have hz := HZ.out
        refine bodyPost_ret (v := .agg #[.int .i64 V, .slice pa N ca, .slice pk i ck]) (by simp [results, Try.results15, go_sem, r0, r1, r2]) rfl ⟨_, _, rfl, ?_, ?_, ?_⟩
        · exact og_sets3 hz.2.2.1 (fun g hg => by have := (hh.2.2.1 g hg).2.2; omega) _ _ _
        · exact OI.mono (oi_sets3 hz.2.2.2.1 (fun g hg => by have := hz.1 g hg; omega) _ _ _) (by omega)
        · exact ((hz.2.2.2.2.1.setCell (by simp) _).setCell (by simp) _).setCell (by simp) _
theorem readq2_ (V : Int) (p q : Option Addr) (c d : Nat) (ps : List (Nat × Nat)) (L : List I5) (w : World) (hx : AG FLV w p ps) (hy : AI w q L) (lx : ps.length ≤ 1048576) (ly : L.length ≤ 1048576) :
    Calls Try.prog 15 #[.agg #[.int .i64 V, .slice p ps.length c, .slice q L.length d]] w fun e w' => ∃ pa ca pb cb, e = .returned (.agg #[.int .i64 V, .slice pa ps.length ca, .slice pb L.length cb]) ∧ AG ULV w' pa ps ∧ AI w' pb L ∧ Kp w w' := by
  refine (readq_ V p q c d ps L w hx hy lx ly).mono ?_
  rintro e w' ⟨vc, vk, rfl, ho, hi, hk⟩
  obtain ⟨pa, ca, rfl, ha, -⟩ := ho.arr
  obtain ⟨pb, cb, rfl, hb, -, -⟩ := hi.arr
  exact ⟨pa, ca, pb, cb, rfl, ha, hb, hk⟩
end X7
end Go.Proofs.Ytipedmnipolmeaa
namespace Go.Proofs.Ytipedmnipolmeaa
open Go.RowKit
open Go
namespace X7
set_option linter.unusedVariables false
set_option maxRecDepth 20000 in
set_option maxHeartbeats 1000000 in
theorem same_ (p q : Option Addr) (c d : Nat) (ps : List (Nat × Nat)) (w : World) (hx : AG ULV w p ps) (hy : AG ULV w q ps) (lx : ps.length ≤ 1048576) :
    Calls Try.prog 36 #[.slice p ps.length c, .slice q ps.length d] w fun e w' => e = .returned (.bool true) ∧ Kp w w' := by
  obtain ⟨N, hN⟩ : ∃ N, N = ps.length := ⟨_, rfl⟩
  rw [← hN] at lx ⊢
  have HX : Hid (AG ULV w p ps) := hx
  have HY : Hid (AG ULV w q ps) := hy
  have HN : Hid (N = ps.length) := hN
  clear hN hx hy
  go_enter Try.func36, Try.ntmps36
  go_wp2
  go_loopw [5] (fun i wr => ∃ k : Nat, k ≤ N ∧ i = .int .i64 k ∧ Kp w wr) (fun i _ => N - (intOf i).toNat)
  case atStart => exact ⟨0, Nat.zero_le _, rfl, Kp.refl _⟩
  case round =>
    obtain ⟨k, hk, rfl, hg⟩ := hrel
    have hN := HN.out
    by_cases ck : k < N
    · obtain ⟨b, off, rfl, hc⟩ := HX.out.at (k := k) (by omega)
      obtain ⟨b', off', rfl, hc'⟩ := HY.out.at (k := k) (by omega)
      have e1 : wr.cell? ⟨b, off + k * 2, none⟩ = some (.int .u64 (((ps.getD k (0, 0)).1 : Nat) : Int)) := kkeep hg (hc k (by omega)).1
      have e2 : wr.cell? ⟨b, off + k * 2 + 1, none⟩ = some (.int .u64 (((ps.getD k (0, 0)).2 : Nat) : Int)) := kkeep hg (hc k (by omega)).2
      have f1 : wr.cell? ⟨b', off' + k * 2, none⟩ = some (.int .u64 (((ps.getD k (0, 0)).1 : Nat) : Int)) := kkeep hg (hc' k (by omega)).1
      have f2 : wr.cell? ⟨b', off' + k * 2 + 1, none⟩ = some (.int .u64 (((ps.getD k (0, 0)).2 : Nat) : Int)) := kkeep hg (hc' k (by omega)).2
      generalize (ps.getD k (0, 0)).1 = Y1 at e1 f1
      generalize (ps.getD k (0, 0)).2 = Y2 at e2 f2
      generalize (Y1 : Int) = Z1 at e1 f1
      generalize (Y2 : Int) = Z2 at e2 f2
      clear hc hc' HX HY HN hN hk
      go_wp2_with fail
      refine Fq.wp_region_grow (by kernel_rfl) (by kernel_rfl) (fun ι _ G hG hall => ?_)
      have cc0 : ∀ n, (G n).cell? ⟨b, off + k * 2, none⟩ = some (.int .u64 Z1) := fun n => Fq.gkeep (hG n) e1
      have cc1 : ∀ n, (G n).cell? ⟨b, off + k * 2 + 1, none⟩ = some (.int .u64 Z2) := fun n => Fq.gkeep (hG n) e2
      have cc2 : ∀ n, (G n).cell? ⟨b', off' + k * 2, none⟩ = some (.int .u64 Z1) := fun n => Fq.gkeep (hG n) f1
      have cc3 : ∀ n, (G n).cell? ⟨b', off' + k * 2 + 1, none⟩ = some (.int .u64 Z2) := fun n => Fq.gkeep (hG n) f2
      repeat (go_big_quiet_step (first | fail))
      refine wpQuiet_nil ?_
      rintro _ ⟨nq, rfl⟩
      have gq : Kp wr (G nq) := hG nq
      clear cc0 cc1 cc2 cc3 hall hG
      go_wp2
      exact ⟨⟨k + 1, by omega, by go_num, Kp.trans hg gq⟩, by simp [intOf]; omega⟩
    · clear HX HY HN hN
      go_wp2
      exact bodyPost_ret (v := .bool true) (by simp [results, Try.results36, go_sem]) rfl ⟨rfl, hg⟩
set_option maxRecDepth 20000 in
set_option maxHeartbeats 2000000 in
theorem equal_ (V : Int) (p q r s : Option Addr) (c d e f : Nat) (ps : List (Nat × Nat)) (L : List I5) (w : World) (hx : AG ULV w p ps) (hy : AG ULV w q ps) (hu : AI w r L) (hv : AI w s L) (lx : ps.length ≤ 1048576) (ly : L.length ≤ 1048576) :
    Calls Try.prog 14 #[.agg #[.int .i64 V, .slice p ps.length c, .slice r L.length e], .agg #[.int .i64 V, .slice q ps.length d, .slice s L.length f]] w fun e w' => e = .returned (.bool true) ∧ Kp w w' := by
  have hs := fun (W : World) (g : Kp w W) => same_ p q c d ps W (hx.grown g) (hy.grown g) lx
  obtain ⟨M, hM⟩ : ∃ M, M = L.length := ⟨_, rfl⟩
  generalize ps.length = N at hs ⊢
  rw [← hM] at ly ⊢
  have HX : Hid (AI w r L ∧ AI w s L ∧ M = L.length) := ⟨hu, hv, hM⟩
  have kw : Kp w ((w.alloc (.cells #[.int .i64 V, .slice p N c, .slice r M e] 25)).alloc (.cells #[.int .i64 V, .slice q N d, .slice s M f] 25)) := ((Kp.refl w).alloc _).alloc _
  have x0 : ((w.alloc (.cells #[.int .i64 V, .slice p N c, .slice r M e] 25)).alloc (.cells #[.int .i64 V, .slice q N d, .slice s M f] 25)).cell? ⟨w.heap.size, 0, none⟩ = some (.int .i64 V) := by simp [go_sem]
  have x1 : ((w.alloc (.cells #[.int .i64 V, .slice p N c, .slice r M e] 25)).alloc (.cells #[.int .i64 V, .slice q N d, .slice s M f] 25)).cell? ⟨w.heap.size, 1, none⟩ = some (.slice p N c) := by simp [go_sem]
  have x2 : ((w.alloc (.cells #[.int .i64 V, .slice p N c, .slice r M e] 25)).alloc (.cells #[.int .i64 V, .slice q N d, .slice s M f] 25)).cell? ⟨w.heap.size, 2, none⟩ = some (.slice r M e) := by simp [go_sem]
  have y0 : ((w.alloc (.cells #[.int .i64 V, .slice p N c, .slice r M e] 25)).alloc (.cells #[.int .i64 V, .slice q N d, .slice s M f] 25)).cell? ⟨w.heap.size + 1, 0, none⟩ = some (.int .i64 V) := by simp [go_sem]
  have y1 : ((w.alloc (.cells #[.int .i64 V, .slice p N c, .slice r M e] 25)).alloc (.cells #[.int .i64 V, .slice q N d, .slice s M f] 25)).cell? ⟨w.heap.size + 1, 1, none⟩ = some (.slice q N d) := by simp [go_sem]
  have y2 : ((w.alloc (.cells #[.int .i64 V, .slice p N c, .slice r M e] 25)).alloc (.cells #[.int .i64 V, .slice q N d, .slice s M f] 25)).cell? ⟨w.heap.size + 1, 2, none⟩ = some (.slice s M f) := by simp [go_sem]
  clear hx hy hu hv lx hM
  go_enter Try.func14, Try.ntmps14
  go_upto_region 1 with fail
  generalize ((w.alloc (.cells #[.int .i64 V, .slice p N c, .slice r M e] 25)).alloc (.cells #[.int .i64 V, .slice q N d, .slice s M f] 25)) = W at x0 x1 x2 y0 y1 y2 kw ⊢
  generalize w.heap.size + 1 = B2 at y0 y1 y2 ⊢
  generalize w.heap.size = B1 at x0 x1 x2 ⊢
  go_upto_region 3 with (first | (go_at_call 36; refine (hs _ kw).mono ?_; rintro e9 w1 ⟨rfl, g1⟩; replace kw := kw.trans g1; replace x0 := kkeep g1 x0; replace x1 := kkeep g1 x1; replace x2 := kkeep g1 x2; replace y0 := kkeep g1 y0; replace y1 := kkeep g1 y1; replace y2 := kkeep g1 y2))
  clear hs g1
  go_wp2_with fail
  go_loopw [5] (fun s5 wr => ∃ k : Nat, k ≤ M ∧ s5 = .int .i64 k ∧ wr.cell? ⟨B1, 2, none⟩ = some (.slice r M e) ∧ wr.cell? ⟨B2, 2, none⟩ = some (.slice s M f) ∧ Kp w wr) (fun s5 _ => M - (intOf s5).toNat)
  case atStart => exact ⟨0, Nat.zero_le _, rfl, x2, y2, kw⟩
  case round =>
    clear x0 x1 x2 y0 y1 y2 kw
    obtain ⟨k, hk, rfl, x2, y2, hg⟩ := hrel
    obtain ⟨hu, hv, hM⟩ := HX.out
    by_cases ck : k < M
    · have HK : Hid (k < M) := ck
      obtain ⟨b, off, rfl, hc⟩ := hu.at (k := k) (by omega)
      obtain ⟨b', off', rfl, hc'⟩ := hv.at (k := k) (by omega)
      obtain ⟨e0, e1, e2, e3, e4⟩ := hc k (by omega)
      obtain ⟨f0, f1, f2, f3, f4⟩ := hc' k (by omega)
      generalize L.getD k D5 = X at *
      obtain ⟨z0, z1, z2, z3, z4⟩ := X
      simp only at e0 e1 e2 e3 e4 f0 f1 f2 f3 f4
      replace e0 := kkeep hg e0
      replace e1 := kkeep hg e1
      replace e2 := kkeep hg e2
      replace e3 := kkeep hg e3
      replace e4 := kkeep hg e4
      replace f0 := kkeep hg f0
      replace f1 := kkeep hg f1
      replace f2 := kkeep hg f2
      replace f3 := kkeep hg f3
      replace f4 := kkeep hg f4
      clear hc hc' hu hv hM HX
      go_upto_region 6 with fail
      refine Fq.wp_region_grow (by kernel_rfl) (by kernel_rfl) (fun ι _ G hG hall => ?_)
      have cc0 : ∀ n, (G n).cell? ⟨B1, 2, none⟩ = some (.slice (some ⟨b, off, none⟩) M e) := fun n => Fq.gkeep (hG n) x2
      have cc1 : ∀ n, (G n).cell? ⟨B2, 2, none⟩ = some (.slice (some ⟨b', off', none⟩) M f) := fun n => Fq.gkeep (hG n) y2
      have cc2 : ∀ n, (G n).cell? ⟨b, off + k * 5, none⟩ = some (.int .i64 z0) := fun n => Fq.gkeep (hG n) e0
      have cc3 : ∀ n, (G n).cell? ⟨b, off + k * 5 + 1, none⟩ = some (.int .i64 z1) := fun n => Fq.gkeep (hG n) e1
      have cc4 : ∀ n, (G n).cell? ⟨b, off + k * 5 + 2, none⟩ = some (.int .i64 z2) := fun n => Fq.gkeep (hG n) e2
      have cc5 : ∀ n, (G n).cell? ⟨b, off + k * 5 + 3, none⟩ = some (.int .i64 z3) := fun n => Fq.gkeep (hG n) e3
      have cc6 : ∀ n, (G n).cell? ⟨b, off + k * 5 + 4, none⟩ = some (.int .i64 z4) := fun n => Fq.gkeep (hG n) e4
      have cc7 : ∀ n, (G n).cell? ⟨b', off' + k * 5, none⟩ = some (.int .i64 z0) := fun n => Fq.gkeep (hG n) f0
      have cc8 : ∀ n, (G n).cell? ⟨b', off' + k * 5 + 1, none⟩ = some (.int .i64 z1) := fun n => Fq.gkeep (hG n) f1
      have cc9 : ∀ n, (G n).cell? ⟨b', off' + k * 5 + 2, none⟩ = some (.int .i64 z2) := fun n => Fq.gkeep (hG n) f2
      have cc10 : ∀ n, (G n).cell? ⟨b', off' + k * 5 + 3, none⟩ = some (.int .i64 z3) := fun n => Fq.gkeep (hG n) f3
      have cc11 : ∀ n, (G n).cell? ⟨b', off' + k * 5 + 4, none⟩ = some (.int .i64 z4) := fun n => Fq.gkeep (hG n) f4
      repeat (go_big_quiet_step (first | fail))
      refine wpQuiet_nil ?_
      rintro _ ⟨nq, rfl⟩
      have gq : Kp wr (G nq) := hG nq
      clear cc0 cc1 cc2 cc3 cc4 cc5 cc6 cc7 cc8 cc9 cc10 cc11 hall hG
      have x3 := kkeep gq x2
      have y3 := kkeep gq y2
      clear x2 y2 e0 e1 e2 e3 e4 f0 f1 f2 f3 f4
      go_wp2
      have hK : k < M := HK.out
      exact ⟨⟨k + 1, hK, by go_num, x3, y3, Kp.trans hg gq⟩, by simp [intOf]; omega⟩
    · clear HX hu hv hM
      go_wp2
      exact bodyPost_ret (v := .bool true) (by simp [results, Try.results14, go_sem]) rfl ⟨rfl, hg⟩
end X7
end Go.Proofs.Ytipedmnipolmeaa
namespace Go.Proofs.Ytipedmnipolmeaa
open Go.RowKit
open Go
namespace X7
set_option linter.unusedVariables false
theorem H3c.set1 {w : World} {b : Nat} {v0 v1 v2 : Value} (h : H3c w b v0 v1 v2) (u : Value) : H3c (w.setCell ⟨b, 1, none⟩ u) b v0 u v2 := by
  obtain ⟨h0, h1, h2, h3, h4, h5⟩ := h
  unfold H3c; simp [go_sem, h0, h1, h2, h3, h4, h5]
theorem Kp.below {w W w' : World} {S : Nat} (h : Kp w W) (b : Below S W w') (hs : w.heap.size ≤ S) : Kp w w' := Below.trans h (Below.mono b hs)
theorem oi_some {T : TypeId} {w : World} {base n c : Nat} {p : Option Addr} {L : List I5} (h : OI T w base (.slice p n c) L) (hL : L ≠ []) : ∃ b, p = some ⟨b, 0, none⟩ ∧ base ≤ b ∧ b < w.heap.size := by
  have h1 := oi_block h
  have h2 := oi_lt h
  obtain ⟨p', c', e, -, -, hp⟩ := h.arr
  obtain ⟨b, rfl, hb⟩ := hp hL
  cases e
  exact ⟨b, rfl, hb, h2 b rfl⟩
theorem OG.arrN {f : Nat → Value} {T : TypeId} {w : World} {base n : Nat} {v : Value} {ps : List (Nat × Nat)} (h : OG f T w base v ps) (hn : ps.length = n) : ∃ p c, v = .slice p n c := by
  obtain ⟨p, c, e, -⟩ := h.arr
  exact ⟨p, c, by rw [e, hn]⟩
theorem OI.arrN {T : TypeId} {w : World} {base n : Nat} {v : Value} {ps : List I5} (h : OI T w base v ps) (hn : ps.length = n) : ∃ p c, v = .slice p n c := by
  obtain ⟨p, c, e, -⟩ := h.arr
  exact ⟨p, c, by rw [e, hn]⟩
def isC (x : I5) : Bool := decide (x.1 = 1)
/-- how many lines are constants -/
def cN (L : List I5) : Nat := (L.filter isC).length
def nCs (ps : List (Nat × Nat)) (L : List I5) : List (Nat × Nat) := (L.filter isC).map (fun x => ps.getD x.2.2.2.2.toNat (0, 0))
def upd (x : I5) (z : Int) : I5 := (x.1, x.2.1, x.2.2.1, x.2.2.2.1, z)
def nLs : Nat → List I5 → List I5
  | _, [] => []
  | k, x :: r => if isC x then upd x (k : Int) :: nLs (k + 1) r else x :: nLs k r
theorem nCs_len (ps : List (Nat × Nat)) (L : List I5) : (nCs ps L).length = cN L := by unfold nCs cN; rw [List.length_map]
theorem nLs_len : ∀ (L : List I5) (k : Nat), (nLs k L).length = L.length
  | [], _ => rfl
  | x :: r, k => by
    unfold nLs
    split
    · simp [nLs_len r]
    · simp [nLs_len r]
theorem cN_le (L : List I5) : cN L ≤ L.length := List.length_filter_le _ _
theorem nLs_app (x : I5) : ∀ (L : List I5) (k : Nat), nLs k (L ++ [x]) = nLs k L ++ [if isC x then upd x ((k + cN L : Nat) : Int) else x]
  | [], k => by
    unfold nLs cN
    by_cases c : isC x = true
    · simp [c, nLs]
    · simp [c, nLs]
  | y :: r, k => by
    have h1 := nLs_app x r (k + 1)
    have h2 := nLs_app x r k
    rw [List.cons_append]
    unfold nLs
    by_cases c : isC y = true
    · rw [if_pos c, if_pos c, h1, List.cons_append]
      rw [show cN (y :: r) = cN r + 1 from by unfold cN; simp [c]]
      rw [show k + 1 + cN r = k + (cN r + 1) from by omega]
    · rw [if_neg c, if_neg c, h2, List.cons_append]
      rw [show cN (y :: r) = cN r from by unfold cN; simp [c]]
theorem cN_app (L : List I5) (x : I5) : cN (L ++ [x]) = if isC x then cN L + 1 else cN L := by
  unfold cN
  by_cases c : isC x = true
  · simp [c]
  · simp [c]
theorem nCs_app (ps : List (Nat × Nat)) (L : List I5) (x : I5) : nCs ps (L ++ [x]) = if isC x then nCs ps L ++ [ps.getD x.2.2.2.2.toNat (0, 0)] else nCs ps L := by
  unfold nCs
  by_cases c : isC x = true
  · simp [c]
  · simp [c]
theorem drop_at (L : List I5) (i : Nat) (h : i < L.length) : L.drop i = L.getD i D5 :: L.drop (i + 1) := by
  rw [List.drop_eq_getElem_cons h]
  simp [List.getD, h]
/-- one step of the loops, where the line is no constant -/
theorem step_no (ps : List (Nat × Nat)) (L : List I5) (i : Nat) (h : i < L.length) (hx : (L.getD i D5).1 ≠ 1) : cN (L.take (i + 1)) = cN (L.take i) ∧ nCs ps (L.take (i + 1)) = nCs ps (L.take i) ∧ nLs 0 (L.take (i + 1)) = nLs 0 (L.take i) ++ [L.getD i D5] ∧ nLs 0 (L.take (i + 1)) ++ L.drop (i + 1) = nLs 0 (L.take i) ++ L.drop i := by
  have e := take_push5 L i h
  have c : ¬ isC (L.getD i D5) = true := by unfold isC; simpa using hx
  have e3 : nLs 0 (L.take (i + 1)) = nLs 0 (L.take i) ++ [L.getD i D5] := by rw [← e, nLs_app, if_neg c]
  refine ⟨by rw [← e, cN_app, if_neg c], by rw [← e, nCs_app, if_neg c], e3, ?_⟩
  rw [e3, drop_at L i h, List.append_assoc]; rfl
theorem step_yes (ps : List (Nat × Nat)) (L : List I5) (i : Nat) (h : i < L.length) (hx : (L.getD i D5).1 = 1) : cN (L.take (i + 1)) = cN (L.take i) + 1 ∧ nCs ps (L.take (i + 1)) = nCs ps (L.take i) ++ [ps.getD (L.getD i D5).2.2.2.2.toNat (0, 0)] ∧ nLs 0 (L.take (i + 1)) = nLs 0 (L.take i) ++ [upd (L.getD i D5) ((cN (L.take i) : Nat) : Int)] ∧ nLs 0 (L.take (i + 1)) ++ L.drop (i + 1) = (nLs 0 (L.take i) ++ L.drop i).set i (upd (L.getD i D5) ((cN (L.take i) : Nat) : Int)) := by
  have e := take_push5 L i h
  have c : isC (L.getD i D5) = true := by unfold isC; simpa using hx
  have e3 : nLs 0 (L.take (i + 1)) = nLs 0 (L.take i) ++ [upd (L.getD i D5) ((cN (L.take i) : Nat) : Int)] := by rw [← e, nLs_app, if_pos c, Nat.zero_add]
  refine ⟨by rw [← e, cN_app, if_pos c], by rw [← e, nCs_app, if_pos c], e3, ?_⟩
  have hl : (nLs 0 (L.take i)).length = i := by rw [nLs_len, List.length_take]; omega
  rw [e3, drop_at L i h, List.append_assoc, List.set_append_right _ _ (by omega), hl, Nat.sub_self]
  rfl
theorem cN_take (L : List I5) (i : Nat) : cN (L.take i) ≤ cN L := by
  unfold cN
  exact ((List.take_sublist i L).filter isC).length_le
theorem cN_take_lt (L : List I5) (i : Nat) (h : i < L.length) (hx : (L.getD i D5).1 = 1) : cN (L.take i) + 1 ≤ cN L := by
  have e := (step_yes [] L i h hx).1
  have := cN_take L (i + 1)
  omega
theorem scan_zero {f : Nat → Int} : ∀ k, (scan f k).2 = 0 → ∀ j, j < k → f j = 0
  | 0, _, j, hj => by omega
  | k + 1, h, j, hj => by
    unfold scan at h
    by_cases c : (scan f k).2 = 0
    · rw [if_pos c] at h
      by_cases d : f k = 0
      · by_cases e : j = k
        · subst e; exact d
        · exact scan_zero k c j (by omega)
      · rw [if_neg d] at h; exact absurd h d
    · rw [if_neg c] at h; exact absurd h c
theorem chk_good {V : Int} {ps : List (Nat × Nat)} {L : List I5} (h : (chk V ps L).2 = 0) : (0 ≤ V ∧ V ≤ 32) ∧ (ps.length ≤ 256 ∧ allV ps = true) ∧ (1 ≤ L.length ∧ L.length ≤ 1024) ∧ ∀ i, i < L.length → lnAt V ps.length L i = 0 := by
  by_cases c1 : 0 ≤ V ∧ V ≤ 32
  case neg => rw [chk_v c1] at h; cases h
  by_cases c2 : ps.length ≤ 256 ∧ allV ps = true
  case neg => rw [chk_c c1 c2] at h; cases h
  by_cases c3 : 1 ≤ L.length ∧ L.length ≤ 1024
  case neg => rw [chk_k c1 c2 c3] at h; cases h
  rw [chk_l c1 c2 c3] at h
  exact ⟨c1, c2, c3, scan_zero _ h⟩
theorem lnE_zero {M c x0 x1 x2 x3 x4 : Int} (h : lnE M c x0 x1 x2 x3 x4 = 0) : (1 ≤ x0 ∧ x0 ≤ 21) ∧ opOk M (opN x0) 0 x1 = true ∧ opOk M (opN x0) 1 x2 = true ∧ opOk M (opN x0) 2 x3 = true ∧ (nbLo x0 ≤ x4 ∧ x4 ≤ nbHi x0 c) := by
  unfold lnE at h
  split at h
  · cases h
  next h1 =>
  split at h
  · cases h
  next h2 =>
  split at h
  next h3 =>
    have h2' : (opOk M (opN x0) 0 x1 && opOk M (opN x0) 1 x2 && opOk M (opN x0) 2 x3) = true := by simpa using h2
    rw [Bool.and_eq_true, Bool.and_eq_true] at h2'
    exact ⟨Decidable.not_not.1 h1, h2'.1.1, h2'.1.2, h2'.2, h3⟩
  · split at h <;> cases h
theorem good_const {V : Int} {ps : List (Nat × Nat)} {L : List I5} {i : Nat} (h : lnAt V ps.length L i = 0) (hx : (L.getD i D5).1 = 1) : 0 ≤ (L.getD i D5).2.2.2.2 ∧ (L.getD i D5).2.2.2.2 < ps.length := by
  have e := (lnE_zero h).2.2.2.2
  rw [hx] at e
  rw [show nbLo 1 = 0 from rfl, show nbHi 1 (ps.length : Int) = (ps.length : Int) - 1 from rfl] at e
  omega
theorem flat5_set4 (z : Int) : ∀ (L : List I5) (i : Nat), i < L.length → (flat5 L).set (i * 5 + 4) (.int .i64 z) = flat5 (L.set i (upd (L.getD i D5) z))
  | [], i, h => by simp at h
  | q :: r, 0, _ => by simp [flat5, upd]
  | q :: r, i + 1, h => by
    have ih := flat5_set4 z r i (by simpa using h)
    rw [show (i + 1) * 5 + 4 = (i * 5 + 4) + 1 + 1 + 1 + 1 + 1 from by omega]
    simp only [flat5, List.set_cons_succ, List.getD_cons_succ]
    rw [ih]
theorem OI.put4 {T : TypeId} {w : World} {base g cap : Nat} {L : List I5} (h : OI T w base (.slice (some ⟨g, 0, none⟩) L.length cap) L) {i : Nat} (hi : i < L.length) (z : Int) : OI T (w.setCell ⟨g, i * 5 + 4, none⟩ (.int .i64 z)) base (.slice (some ⟨g, 0, none⟩) L.length cap) (L.set i (upd (L.getD i D5) z)) := by
  have e := (World.ownsRow.stored h (i * 5 + 4) (.int .i64 z)).1
  unfold OI
  rw [← flat5_set4 z L i hi, List.length_set]
  exact e
theorem OI.at4 {T : TypeId} {w : World} {base g cap : Nat} {L : List I5} (h : OI T w base (.slice (some ⟨g, 0, none⟩) L.length cap) L) {i : Nat} (hi : i < L.length) : w.cell? ⟨g, i * 5 + 4, none⟩ = some (.int .i64 (L.getD i D5).2.2.2.2) ∧ w.frozen? ⟨g, i * 5 + 4, none⟩ = false := by
  refine ⟨?_, World.ownsRow.frozenAt h _⟩
  rw [World.ownsRow.cellAt h _ (by omega)]
  exact (flat5_get L i hi).2.2.2.2
/-- what Normal answers: the variables, constants, lines, the error -/
def nV (V : Int) (ps : List (Nat × Nat)) (L : List I5) : Int := if (chk V ps L).2 = 0 ∧ cN L ≤ 256 then V else 0
def nP (V : Int) (ps : List (Nat × Nat)) (L : List I5) : List (Nat × Nat) := if (chk V ps L).2 = 0 ∧ cN L ≤ 256 then nCs ps L else []
def nQ (V : Int) (ps : List (Nat × Nat)) (L : List I5) : List I5 := if (chk V ps L).2 = 0 ∧ cN L ≤ 256 then nLs 0 L else []
def nE (V : Int) (ps : List (Nat × Nat)) (L : List I5) : Int := if (chk V ps L).2 ≠ 0 then (chk V ps L).2 else if cN L ≤ 256 then 0 else 161
end X7
end Go.Proofs.Ytipedmnipolmeaa
namespace Go.Proofs.Ytipedmnipolmeaa
open Go.RowKit
open Go
namespace X7
set_option linter.unusedVariables false
set_option maxRecDepth 20000 in
set_option maxHeartbeats 1000000 in
theorem tooMany_ (p : Option Addr) (c : Nat) (L : List I5) (w : World) (hx : AI w p L) (lx : L.length ≤ 1048576) :
    Calls Try.prog 38 #[.slice p L.length c] w fun e w' => e = .returned (.bool (decide ((256 : Int) < (cN L : Int)))) ∧ Kp w w' := by
  obtain ⟨M, hM⟩ : ∃ M, M = L.length := ⟨_, rfl⟩
  rw [← hM] at lx ⊢
  have HX : Hid (AI w p L ∧ M = L.length) := ⟨hx, hM⟩
  have hcl := cN_le L
  clear hx hM
  go_enter Try.func38, Try.ntmps38
  go_wp2
  go_loopw [3, 5, 8] (fun s3 s5 s8 wr => ∃ j k : Nat, s3 = .int .i64 k ∧ s8 = .int .i64 j ∧ k = cN (L.take j) ∧ k ≤ j ∧ j ≤ M ∧ Kp w wr) (fun _ _ s8 _ => M - (intOf s8).toNat)
  case atStart => exact ⟨0, 0, rfl, rfl, rfl, Nat.le_refl _, Nat.zero_le _, Kp.refl _⟩
  case round =>
    obtain ⟨j, k, rfl, rfl, hk, hkj, hj, hkp⟩ := hrel
    have HK : Hid (k = cN (L.take j)) := hk
    clear hk
    by_cases cj : j < M
    · obtain ⟨b, off, rfl, hc5⟩ := HX.out.1.at (k := j) (by have := HX.out.2; omega)
      obtain ⟨e0, e1, e2, e3, e4⟩ := hc5 j (by have := HX.out.2; omega)
      obtain ⟨X, hX⟩ : ∃ X, X = L.getD j D5 := ⟨_, rfl⟩
      have hy := step_yes [] L j (by have := HX.out.2; omega)
      have hn := step_no [] L j (by have := HX.out.2; omega)
      rw [← hX] at e0 e1 e2 e3 e4 hy hn
      obtain ⟨x0, x1, x2, x3, x4⟩ := X
      simp only at e0 e1 e2 e3 e4 hy hn
      replace e0 := kkeep hkp e0
      replace e1 := kkeep hkp e1
      replace e2 := kkeep hkp e2
      replace e3 := kkeep hkp e3
      replace e4 := kkeep hkp e4
      have HJ : Hid (j < M) := cj
      clear hc5 hX
      have kA : Kp wr (wr.alloc (.cells #[.int .i64 x0, .int .i64 x1, .int .i64 x2, .int .i64 x3, .int .i64 x4] 62)) := (Kp.refl wr).alloc _
      by_cases c1 : x0 = 1
      · have HY : Hid (cN (L.take (j + 1)) = cN (L.take j) + 1) := (hy c1).1
        subst c1
        clear hy hn hcl HX
        go_wp2
        have hJ : j < M := HJ.out
        exact ⟨⟨j + 1, k + 1, by go_num, by go_num, by rw [HY.out, HK.out], by omega, hJ, hkp.trans kA⟩, by simp [intOf]; omega⟩
      · have HY : Hid (cN (L.take (j + 1)) = cN (L.take j)) := (hn c1).1
        have d1 : (x0 == 1) = false := beq_eq_false_iff_ne.2 c1
        clear hy hn hcl HX
        go_wp2
        have hJ : j < M := HJ.out
        exact ⟨⟨j + 1, k, rfl, by go_num, by rw [HY.out, HK.out], by omega, hJ, hkp.trans kA⟩, by simp [intOf]; omega⟩
    · have hL : L.take j = L := List.take_of_length_le (by have := HX.out.2; omega)
      have e := HK.out
      rw [hL] at e
      have HE : Hid (k = cN L) := e
      clear HX HK hcl hL e
      go_wp2
      exact bodyPost_ret (v := .bool (decide ((256 : Int) < (k : Int)))) (by simp [results, Try.results38, go_sem]) rfl ⟨by rw [HE.out], hkp⟩
set_option maxRecDepth 20000 in
set_option maxHeartbeats 1000000 in
theorem rconsts_ (V : Int) (pc pk : Option Addr) (cc ck N : Nat) (L : List I5) (w : World) (hx : AI w pk L) (lx : L.length ≤ 1048576) :
    Calls Try.prog 39 #[.agg #[.int .i64 V, .slice pc N cc, .slice pk L.length ck]] w fun e w' => e = .returned (.int .i64 (cN L : Int)) ∧ Kp w w' := by
  obtain ⟨M, hM⟩ : ∃ M, M = L.length := ⟨_, rfl⟩
  rw [← hM] at lx ⊢
  have HX : Hid (AI w pk L ∧ M = L.length) := ⟨hx, hM⟩
  have z2 : (w.alloc (.cells #[.int .i64 V, .slice pc N cc, .slice pk M ck] 25)).cell? ⟨w.heap.size, 2, none⟩ = some (.slice pk M ck) := by simp [go_sem]
  have kw : Kp w (w.alloc (.cells #[.int .i64 V, .slice pc N cc, .slice pk M ck] 25)) := (Kp.refl w).alloc _
  clear hx hM
  go_enter Try.func39, Try.ntmps39
  go_upto_region 1 with fail
  generalize (w.alloc (.cells #[.int .i64 V, .slice pc N cc, .slice pk M ck] 25)) = W1 at z2 kw ⊢
  generalize w.heap.size = B0 at z2 ⊢
  go_wp2_with fail
  go_loopw [3, 4] (fun s3 s4 wr => ∃ j k : Nat, s3 = .int .i64 k ∧ s4 = .int .i64 j ∧ k = cN (L.take j) ∧ k ≤ j ∧ j ≤ M ∧ wr.cell? ⟨B0, 2, none⟩ = some (.slice pk M ck) ∧ Kp w wr) (fun _ s4 _ => M - (intOf s4).toNat)
  case atStart => exact ⟨0, 0, rfl, rfl, rfl, Nat.le_refl _, Nat.zero_le _, z2, kw⟩
  case round =>
    clear z2 kw
    obtain ⟨j, k, rfl, rfl, hk, hkj, hj, z2, hkp⟩ := hrel
    have HK : Hid (k = cN (L.take j)) := hk
    clear hk
    by_cases cj : j < M
    · obtain ⟨b, off, rfl, hc5⟩ := HX.out.1.at (k := j) (by have := HX.out.2; omega)
      obtain ⟨e0, e1, e2, e3, e4⟩ := hc5 j (by have := HX.out.2; omega)
      obtain ⟨X, hX⟩ : ∃ X, X = L.getD j D5 := ⟨_, rfl⟩
      have hy := step_yes [] L j (by have := HX.out.2; omega)
      have hn := step_no [] L j (by have := HX.out.2; omega)
      rw [← hX] at e0 e1 e2 e3 e4 hy hn
      obtain ⟨x0, x1, x2, x3, x4⟩ := X
      simp only at e0 e1 e2 e3 e4 hy hn
      replace e0 := kkeep hkp e0
      replace e1 := kkeep hkp e1
      replace e2 := kkeep hkp e2
      replace e3 := kkeep hkp e3
      replace e4 := kkeep hkp e4
      have HJ : Hid (j < M) := cj
      clear hc5 hX
      by_cases c1 : x0 = 1
      · have HY : Hid (cN (L.take (j + 1)) = cN (L.take j) + 1) := (hy c1).1
        subst c1
        clear hy hn HX
        go_wp2
        have hJ : j < M := HJ.out
        exact ⟨⟨j + 1, k + 1, by go_num, by go_num, by rw [HY.out, HK.out], by omega, hJ, z2, hkp⟩, by simp [intOf]; omega⟩
      · have HY : Hid (cN (L.take (j + 1)) = cN (L.take j)) := (hn c1).1
        have d1 : (x0 == 1) = false := beq_eq_false_iff_ne.2 c1
        clear hy hn HX
        go_wp2
        have hJ : j < M := HJ.out
        exact ⟨⟨j + 1, k, rfl, by go_num, by rw [HY.out, HK.out], by omega, hJ, z2, hkp⟩, by simp [intOf]; omega⟩
    · have hL : L.take j = L := List.take_of_length_le (by have := HX.out.2; omega)
      have e := HK.out
      rw [hL] at e
      have HE : Hid (k = cN L) := e
      clear HX HK hL e
      go_wp2
      exact bodyPost_ret (v := .int .i64 (k : Int)) (by simp [results, Try.results39, go_sem]) rfl ⟨by rw [HE.out], hkp⟩
end X7
end Go.Proofs.Ytipedmnipolmeaa
namespace Go.Proofs.Ytipedmnipolmeaa
open Go.RowKit
open Go
namespace X7
set_option linter.unusedVariables false
set_option linter.unusedSimpArgs false
theorem if_app2 {P : Program} {w : World} {ops : Array Oper} {o : Oper} {a : Act} {K : Act → World → Prop} {Q : Exit → Act → World → Prop} (hw : Region.wanted o (yielded ops a.tmps) = true) (s x : Operand) (t : TypeId)
    (ho : o.op = .call { callee := .builtin .append, args := #[s, x], argTypes := #[t, t] }) (v u : Value) {R : Value → World → Prop} (hs : a.eval s = v) (hx : a.eval x = u)
    (hr : ∃ v' w', (Builtin.append_ #[t, t] o.type #[v, u]).run P w = .ok v' w' ∧ R v' w') (h : ∀ v' w', R v' w' → K (a.put o.dst v') w') : if Region.wanted o (yielded ops a.tmps) = true then Oper.wp P o a w K Q else K (a.put o.dst undef) w := by
  obtain ⟨v', w', hr, hR⟩ := hr
  rw [if_pos hw]
  unfold Oper.wp execOp
  simp only [ho, resolve, invoke, builtin, Sem.run_bind, Sem.run_pure, Result.andThen_ok, List.map_toArray, List.map_cons, List.map_nil, hs, hx, hr]
  exact h _ _ hR
theorem appF_ (W Wx : World) (S : Nat) (hS : S ≤ W.heap.size) (k : Kp W Wx) (v : Value) (qs : List (Nat × Nat)) (b x y c : Nat) (hown : OG FLV 71 W S v qs) (e1 : Wx.cell? ⟨b, 0, none⟩ = some (.float .f64 x)) (e2 : Wx.cell? ⟨b, 1, none⟩ = some (.float .f64 y)) (hb : qs.length + 1 ≤ 1048576) :
    ∃ v' w', (Builtin.append_ #[29, 29] 29 #[v, .slice (some ⟨b, 0, none⟩) 1 c]).run Try.prog Wx = .ok v' w' ∧ (OG FLV 71 w' S v' (qs ++ [(x, y)]) ∧ Below S W w' ∧ W.heap.size ≤ w'.heap.size ∧ ∀ (b o : Nat) (u : Value), W.cell? ⟨b, o, none⟩ = some u → v.ownBlock ≠ some b → w'.cell? ⟨b, o, none⟩ = some u) := by
  obtain ⟨i0, hi0, hi1, hi2, hi3⟩ := infF
  have hsz := Below.size k
  have hox : OG FLV 71 Wx S v qs := hown.kp k
  obtain ⟨v', w', hr, ho, hg, -, h5⟩ := run_append_own_at (P := Try.prog) Wx S 29 29 71 i0 (.agg #[.float .f64 0, .float .f64 0]) 2 16 Try.underlying29 hi0 hi1 hi2 hi3 rfl (by decide) v qs.length (flat FLV qs) hox ⟨b, 0, none⟩ 1 c [.float .f64 x, .float .f64 y] rfl (fun j u hu => by
    match j, hu with
    | 0, hu => rw [addr_add, Nat.add_zero, e1]; simpa using hu
    | 1, hu => rw [addr_add, e2]; simpa using hu) (fun u hu => by simp at hu; rcases hu with rfl | rfl <;> rfl) (by unfold maxLen; omega) (by omega) (by omega)
  exact ⟨v', w', hr, OG.push ho, Below.grown (Below.mono k hS) hg (by omega) (og_block hox), Nat.le_trans hsz hg.size, fun b o u h hne => (hg.cell_far ⟨b, o, none⟩ (cell_lt (kkeep k h)) (fun e => hne e.symm)).trans (kkeep k h)⟩
set_option maxRecDepth 20000 in
set_option maxHeartbeats 4000000 in
theorem pnormE_ (V : Int) (pc pk : Option Addr) (cc ck : Nat) (ps : List (Nat × Nat)) (L : List I5) (he : (chk V ps L).2 ≠ 0) (w : World) (hx : AG FLV w pc ps) (hy : AI w pk L) (hw : Wq ps) (lx : ps.length ≤ 1048576) (ly : L.length ≤ 1048576) :
    Calls Try.prog 16 #[.agg #[.int .i64 V, .slice pc ps.length cc, .slice pk L.length ck]] w fun e w' => e = .returned (.tuple #[.agg #[.int .i64 0, .slice none 0 0, .slice none 0 0], .int .i64 (chk V ps L).2]) ∧ Kp w w' := by
  obtain ⟨R, hR⟩ : ∃ R, R = chk V ps L := ⟨_, rfl⟩
  have hch := fun (W : World) (g : Kp w W) => pcheck_ V pc pk cc ck ps L W (hx.grown g) (hy.grown g) hw lx ly
  rw [← hR] at hch
  have htm := fun (W : World) (g : Kp w W) => tooMany_ pk ck L W (hy.grown g) ly
  have hcN := fun (W : World) (g : Kp w W) => cloneN_ pk ck L W (hy.grown g) ly
  rw [← hR] at he ⊢
  generalize ps.length = N at hch ⊢
  generalize L.length = M at hch ⊢
  obtain ⟨n, e⟩ := R
  simp only at hch he ⊢
  have dE : (e == 0) = false := beq_eq_false_iff_ne.2 he
  have dE' : (e != 0) = true := by simpa using he
  have sx : H3c ((w.alloc (.cells #[.int .i64 V, .slice pc N cc, .slice pk M ck] 32)).alloc (.cells #[.int .i64 0, .slice none 0 0, .slice none 0 0] 32)) w.heap.size (.int .i64 V) (.slice pc N cc) (.slice pk M ck) := H3c.keep (H3c.new w (.int .i64 V) (.slice pc N cc) (.slice pk M ck) 32) ((Kp.refl _).alloc _)
  have sr : H3c ((w.alloc (.cells #[.int .i64 V, .slice pc N cc, .slice pk M ck] 32)).alloc (.cells #[.int .i64 0, .slice none 0 0, .slice none 0 0] 32)) (w.heap.size + 1) (.int .i64 0) (.slice none 0 0) (.slice none 0 0) := by
    have h := H3c.new (w.alloc (.cells #[.int .i64 V, .slice pc N cc, .slice pk M ck] 32)) (.int .i64 0) (.slice none 0 0) (.slice none 0 0) 32
    rw [show (w.alloc (.cells #[.int .i64 V, .slice pc N cc, .slice pk M ck] 32)).heap.size = w.heap.size + 1 from by simp] at h
    exact h
  have kw : Kp w ((w.alloc (.cells #[.int .i64 V, .slice pc N cc, .slice pk M ck] 32)).alloc (.cells #[.int .i64 0, .slice none 0 0, .slice none 0 0] 32)) := ((Kp.refl w).alloc _).alloc _
  have hsw : w.heap.size + 1 < ((w.alloc (.cells #[.int .i64 V, .slice pc N cc, .slice pk M ck] 32)).alloc (.cells #[.int .i64 0, .slice none 0 0, .slice none 0 0] 32)).heap.size := by simp
  clear he hR hx hy hw lx ly hcN htm
  go_enter Try.func16, Try.ntmps16
  go_upto_region 1 with fail
  generalize ((w.alloc (.cells #[.int .i64 V, .slice pc N cc, .slice pk M ck] 32)).alloc (.cells #[.int .i64 0, .slice none 0 0, .slice none 0 0] 32)) = W at sx sr kw hsw ⊢
  obtain ⟨a0, a1, a2, a3, a4, a5⟩ := id sx
  obtain ⟨r0, r1, r2, r3, r4, r5⟩ := id sr
  go_wp2_with (first | (go_at_call 6; refine (hch _ kw).mono ?_; rintro e1 w1 ⟨rfl, g1⟩; replace kw := kw.trans g1; replace sx := sx.keep g1; replace sr := sr.keep g1; replace hsw := Nat.lt_of_lt_of_le hsw (Below.size g1); clear a0 a1 a2 a3 a4 a5 r0 r1 r2 r3 r4 r5; obtain ⟨a0, a1, a2, a3, a4, a5⟩ := id sx; obtain ⟨r0, r1, r2, r3, r4, r5⟩ := id sr; clear g1))
  exact bodyPost_ret (v := .tuple #[.agg #[.int .i64 0, .slice none 0 0, .slice none 0 0], .int .i64 e]) (by simp [results, Try.results16, go_sem, r0, r1, r2]) rfl ⟨rfl, ((kw.setCell (by simp) _).setCell (by simp) _).setCell (by simp) _⟩
set_option maxRecDepth 20000 in
set_option maxHeartbeats 4000000 in
theorem pnormT_ (V : Int) (pc pk : Option Addr) (cc ck : Nat) (ps : List (Nat × Nat)) (L : List I5) (he : (chk V ps L).2 = 0) (hc : ¬ cN L ≤ 256) (w : World) (hx : AG FLV w pc ps) (hy : AI w pk L) (hw : Wq ps) (lx : ps.length ≤ 1048576) (ly : L.length ≤ 1048576) :
    Calls Try.prog 16 #[.agg #[.int .i64 V, .slice pc ps.length cc, .slice pk L.length ck]] w fun e w' => e = .returned (.tuple #[.agg #[.int .i64 0, .slice none 0 0, .slice none 0 0], .int .i64 161]) ∧ Kp w w' := by
  obtain ⟨R, hR⟩ : ∃ R, R = chk V ps L := ⟨_, rfl⟩
  have hch := fun (W : World) (g : Kp w W) => pcheck_ V pc pk cc ck ps L W (hx.grown g) (hy.grown g) hw lx ly
  rw [← hR] at hch
  have htm := fun (W : World) (g : Kp w W) => tooMany_ pk ck L W (hy.grown g) ly
  have hcN := fun (W : World) (g : Kp w W) => cloneN_ pk ck L W (hy.grown g) ly
  rw [← hR] at he
  rw [decide_eq_true (show (256 : Int) < (cN L : Int) by omega)] at htm
  generalize ps.length = N at hch ⊢
  generalize L.length = M at hch htm ⊢
  obtain ⟨n, e⟩ := R
  simp only at hch he
  subst he
  have sx : H3c ((w.alloc (.cells #[.int .i64 V, .slice pc N cc, .slice pk M ck] 32)).alloc (.cells #[.int .i64 0, .slice none 0 0, .slice none 0 0] 32)) w.heap.size (.int .i64 V) (.slice pc N cc) (.slice pk M ck) := H3c.keep (H3c.new w (.int .i64 V) (.slice pc N cc) (.slice pk M ck) 32) ((Kp.refl _).alloc _)
  have sr : H3c ((w.alloc (.cells #[.int .i64 V, .slice pc N cc, .slice pk M ck] 32)).alloc (.cells #[.int .i64 0, .slice none 0 0, .slice none 0 0] 32)) (w.heap.size + 1) (.int .i64 0) (.slice none 0 0) (.slice none 0 0) := by
    have h := H3c.new (w.alloc (.cells #[.int .i64 V, .slice pc N cc, .slice pk M ck] 32)) (.int .i64 0) (.slice none 0 0) (.slice none 0 0) 32
    rw [show (w.alloc (.cells #[.int .i64 V, .slice pc N cc, .slice pk M ck] 32)).heap.size = w.heap.size + 1 from by simp] at h
    exact h
  have kw : Kp w ((w.alloc (.cells #[.int .i64 V, .slice pc N cc, .slice pk M ck] 32)).alloc (.cells #[.int .i64 0, .slice none 0 0, .slice none 0 0] 32)) := ((Kp.refl w).alloc _).alloc _
  have hsw : w.heap.size + 1 < ((w.alloc (.cells #[.int .i64 V, .slice pc N cc, .slice pk M ck] 32)).alloc (.cells #[.int .i64 0, .slice none 0 0, .slice none 0 0] 32)).heap.size := by simp
  clear hR hx hy hw lx ly hcN hc
  go_enter Try.func16, Try.ntmps16
  go_upto_region 1 with fail
  generalize ((w.alloc (.cells #[.int .i64 V, .slice pc N cc, .slice pk M ck] 32)).alloc (.cells #[.int .i64 0, .slice none 0 0, .slice none 0 0] 32)) = W at sx sr kw hsw ⊢
  obtain ⟨a0, a1, a2, a3, a4, a5⟩ := id sx
  obtain ⟨r0, r1, r2, r3, r4, r5⟩ := id sr
  go_wp2_with (first | (go_at_call 6; refine (hch _ kw).mono ?_; rintro e1 w1 ⟨rfl, g1⟩; replace kw := kw.trans g1; replace sx := sx.keep g1; replace sr := sr.keep g1; replace hsw := Nat.lt_of_lt_of_le hsw (Below.size g1); clear a0 a1 a2 a3 a4 a5 r0 r1 r2 r3 r4 r5; obtain ⟨a0, a1, a2, a3, a4, a5⟩ := id sx; obtain ⟨r0, r1, r2, r3, r4, r5⟩ := id sr; clear g1) | (go_at_call 38; refine (htm _ kw).mono ?_; rintro e2 w2 ⟨rfl, g2⟩; replace kw := kw.trans g2; replace sx := sx.keep g2; replace sr := sr.keep g2; replace hsw := Nat.lt_of_lt_of_le hsw (Below.size g2); clear a0 a1 a2 a3 a4 a5 r0 r1 r2 r3 r4 r5; obtain ⟨a0, a1, a2, a3, a4, a5⟩ := id sx; obtain ⟨r0, r1, r2, r3, r4, r5⟩ := id sr; clear g2))
  exact bodyPost_ret (v := .tuple #[.agg #[.int .i64 0, .slice none 0 0, .slice none 0 0], .int .i64 161]) (by simp [results, Try.results16, go_sem, r0, r1, r2]) rfl ⟨rfl, ((kw.setCell (by simp) _).setCell (by simp) _).setCell (by simp) _⟩
set_option maxRecDepth 20000 in
set_option maxHeartbeats 4000000 in
theorem pnormO_ (V : Int) (pc pk : Option Addr) (cc ck : Nat) (ps : List (Nat × Nat)) (L : List I5) (he : (chk V ps L).2 = 0) (hc : cN L ≤ 256) (w : World) (hx : AG FLV w pc ps) (hy : AI w pk L) (hw : Wq ps) (lx : ps.length ≤ 1048576) (ly : L.length ≤ 1048576) :
    Calls Try.prog 16 #[.agg #[.int .i64 V, .slice pc ps.length cc, .slice pk L.length ck]] w fun e w' => ∃ pa ca pb cb, e = .returned (.tuple #[.agg #[.int .i64 V, .slice pa (nCs ps L).length ca, .slice pb (nLs 0 L).length cb], .int .i64 0]) ∧ AG FLV w' pa (nCs ps L) ∧ AI w' pb (nLs 0 L) ∧ Kp w w' := by
  have hgd := chk_good he
  obtain ⟨R, hR⟩ : ∃ R, R = chk V ps L := ⟨_, rfl⟩
  have hch := fun (W : World) (g : Kp w W) => pcheck_ V pc pk cc ck ps L W (hx.grown g) (hy.grown g) hw lx ly
  rw [← hR] at hch
  have htm := fun (W : World) (g : Kp w W) => tooMany_ pk ck L W (hy.grown g) ly
  have hcN := fun (W : World) (g : Kp w W) => cloneN_ pk ck L W (hy.grown g) ly
  rw [← hR] at he
  rw [decide_eq_false (show ¬ ((256 : Int) < (cN L : Int)) by omega)] at htm
  rw [nCs_len, nLs_len]
  obtain ⟨N, hN⟩ : ∃ N, N = ps.length := ⟨_, rfl⟩
  obtain ⟨M, hM⟩ : ∃ M, M = L.length := ⟨_, rfl⟩
  rw [← hN] at hch ⊢
  rw [← hM] at hch htm hcN ⊢
  obtain ⟨n, e⟩ := R
  simp only at hch he
  subst he
  have sx : H3c ((w.alloc (.cells #[.int .i64 V, .slice pc N cc, .slice pk M ck] 32)).alloc (.cells #[.int .i64 0, .slice none 0 0, .slice none 0 0] 32)) w.heap.size (.int .i64 V) (.slice pc N cc) (.slice pk M ck) := H3c.keep (H3c.new w (.int .i64 V) (.slice pc N cc) (.slice pk M ck) 32) ((Kp.refl _).alloc _)
  have sr : H3c ((w.alloc (.cells #[.int .i64 V, .slice pc N cc, .slice pk M ck] 32)).alloc (.cells #[.int .i64 0, .slice none 0 0, .slice none 0 0] 32)) (w.heap.size + 1) (.int .i64 0) (.slice none 0 0) (.slice none 0 0) := by
    have h := H3c.new (w.alloc (.cells #[.int .i64 V, .slice pc N cc, .slice pk M ck] 32)) (.int .i64 0) (.slice none 0 0) (.slice none 0 0) 32
    rw [show (w.alloc (.cells #[.int .i64 V, .slice pc N cc, .slice pk M ck] 32)).heap.size = w.heap.size + 1 from by simp] at h
    exact h
  have kw : Kp w ((w.alloc (.cells #[.int .i64 V, .slice pc N cc, .slice pk M ck] 32)).alloc (.cells #[.int .i64 0, .slice none 0 0, .slice none 0 0] 32)) := ((Kp.refl w).alloc _).alloc _
  have hsw : w.heap.size + 1 < ((w.alloc (.cells #[.int .i64 V, .slice pc N cc, .slice pk M ck] 32)).alloc (.cells #[.int .i64 0, .slice none 0 0, .slice none 0 0] 32)).heap.size := by simp
  have HX : Hid (AG FLV w pc ps ∧ AI w pk L ∧ N = ps.length ∧ M = L.length ∧ N ≤ 256 ∧ 1 ≤ M ∧ cN L ≤ 256 ∧ ∀ i, i < L.length → lnAt V ps.length L i = 0) := ⟨hx, hy, hN, hM, by omega, by omega, hc, hgd.2.2.2⟩
  have hM9 : M ≤ 1024 := by omega
  clear hR hx hy hw lx ly hc hgd hN hM
  go_enter Try.func16, Try.ntmps16
  go_upto_region 1 with fail
  generalize ((w.alloc (.cells #[.int .i64 V, .slice pc N cc, .slice pk M ck] 32)).alloc (.cells #[.int .i64 0, .slice none 0 0, .slice none 0 0] 32)) = W at sx sr kw hsw ⊢
  obtain ⟨a0, a1, a2, a3, a4, a5⟩ := id sx
  obtain ⟨r0, r1, r2, r3, r4, r5⟩ := id sr
  go_upto_region 6 with (first | (go_at_call 6; refine (hch _ kw).mono ?_; rintro e1 w1 ⟨rfl, g1⟩; replace kw := kw.trans g1; replace sx := sx.keep g1; replace sr := sr.keep g1; replace hsw := Nat.lt_of_lt_of_le hsw (Below.size g1); clear a0 a1 a2 a3 a4 a5 r0 r1 r2 r3 r4 r5; obtain ⟨a0, a1, a2, a3, a4, a5⟩ := id sx; obtain ⟨r0, r1, r2, r3, r4, r5⟩ := id sr; clear g1) | (go_at_call 38; refine (htm _ kw).mono ?_; rintro e2 w2 ⟨rfl, g2⟩; replace kw := kw.trans g2; replace sx := sx.keep g2; replace sr := sr.keep g2; replace hsw := Nat.lt_of_lt_of_le hsw (Below.size g2); clear a0 a1 a2 a3 a4 a5 r0 r1 r2 r3 r4 r5; obtain ⟨a0, a1, a2, a3, a4, a5⟩ := id sx; obtain ⟨r0, r1, r2, r3, r4, r5⟩ := id sr; clear g2))
  clear hch htm
  rename_i W0
  generalize w2 = W at *
  have hcN := hcN
  go_cut [6] (fun s6 wx => ∃ (g : Nat) (pb : Option Addr) (cb : Nat), s6 = .pointer (some ⟨g, 0, none⟩) ∧ H3c wx g (.int .i64 V) (.slice none 0 0) (.slice pb M cb) ∧ Kp W wx ∧ OI 62 wx W.heap.size (.slice pb M cb) L ∧ (∀ k, (Value.slice pb M cb).ownBlock = some k → k ≠ g) ∧ W.heap.size ≤ g)
  case first =>
    go_region_held3 (fun w' => w'.cell? ⟨w.heap.size, 0, none⟩ = some (.int .i64 V) ∧ w'.cell? ⟨w.heap.size, 1, none⟩ = some (.slice pc N cc) ∧ w'.cell? ⟨w.heap.size, 2, none⟩ = some (.slice pk M ck)) (first | (with_reducible exact ⟨a0, a1, a2⟩) | (with_reducible exact ⟨cb0_0, cb0_1, cb0_2⟩) | (refine ⟨(kkeep (W := W) ?_ a0), (kkeep (W := W) ?_ a1), (kkeep (W := W) ?_ a2)⟩ <;> ((repeat (first | with_reducible exact Kp.refl _ | with_reducible apply Kp.drew | with_reducible apply Kp.alloc)); done)) | (refine ⟨(kkeep (W := w1) ?_ cb0_0), (kkeep (W := w1) ?_ cb0_1), (kkeep (W := w1) ?_ cb0_2)⟩ <;> ((repeat (first | with_reducible exact Kp.refl _ | with_reducible apply Kp.drew | with_reducible apply Kp.alloc)); done)) | (refine ⟨?_, ?_, ?_⟩ <;> (refine ((World.cell?_setCell_far _ _ _ _ ?_).trans ((World.cell?_setCell_far _ _ _ _ ?_).trans ((World.cell?_setCell_far _ _ _ _ ?_).trans ?_))) <;> first | assumption | (have h90 := cell_lt a0; have h91 := cell_lt a1; have h92 := cell_lt a2; have h80 := Below.size KB0; first | omega | (simp <;> omega))))) (first | (go_at_call 28; refine (hcN _ (Kp.trans kw (by (repeat (first | exact Kp.refl _ | apply Kp.drew | apply Kp.alloc)); done))).mono ?_; rintro e w1 ⟨pb, cb, rfl, o1, g1⟩; have KB0 : Kp W w1 := Kp.trans (by (repeat (first | exact Kp.refl _ | apply Kp.drew | apply Kp.alloc)); done) g1; have cb0_0 := kkeep KB0 a0; have cb0_1 := kkeep KB0 a1; have cb0_2 := kkeep KB0 a2; first | ((with_reducible have hb9 := (H3c.keep (H3c.newD W (.int .i64 0) (.slice none 0 0) (.slice none 0 0) 32) g1)); obtain ⟨mb0, mb1, mb2, mb3, mb4, mb5⟩ := id hb9) | skip))
    all_goals go_wp2_with fail
    all_goals (
      go_meet
      refine ⟨_, pb, cb, rfl, ?_, ?_, ?_, ?_, ?_⟩
      · first | (with_reducible exact H3c.put hb9 _ _ _) | (with_reducible exact H3c.put (H3c.new w1 (.int .i64 0) (.slice none 0 0) (.slice none 0 0) 32) _ _ _) | (with_reducible exact H3c.new w1 _ _ _ 32) | (unfold H3c; simp [go_sem]; done)
      · have h80 := Below.size KB0
        first | (with_reducible exact (Kp.alloc KB0 _)) | ((with_reducible refine (Kp.setCell (Kp.setCell (Kp.setCell KB0 ?_ _) ?_ _) ?_ _)) <;> first | omega | (simp <;> omega)) | ((with_reducible refine (Kp.setCell (Kp.setCell (Kp.setCell (Kp.alloc KB0 _) ?_ _) ?_ _) ?_ _)) <;> first | omega | (simp <;> omega))
      · have h80 := Below.size KB0
        first | (with_reducible exact OI.mono (OI.kp o1 ((Kp.refl _).alloc _)) (by simp)) | (exact OI.mono (oi_sets3 o1 (fun g hg => by have := oi_block o1 g hg; simp at this; omega) _ _ _) (by simp))
      · intro k hk
        have h1 := oi_block o1 k hk
        have h2 := oi_lt o1 k hk
        simp at h1 h2 ⊢
        omega
      · have h80 := Below.size KB0
        first | exact Nat.le_refl _ | exact h80)
  case rest =>
    obtain ⟨B6, pb, cb, rfl, sb, kc, hoi, hne, hge⟩ := hcut
    rename_i wc
    replace sx := H3c.keep sx kc
    replace sr := H3c.keep sr kc
    replace kw := kw.trans kc
    obtain ⟨gb, rfl, hgb1, hgb2⟩ := oi_some hoi (by intro h; have h1 := HX.out.2.2.2.1; have h2 := HX.out.2.2.2.2.2.1; rw [h] at h1; simp at h1; omega)
    have hB6 := sb.lt
    have hne9 : gb ≠ B6 := hne gb rfl
    obtain ⟨S, hS⟩ : ∃ S, S = wc.heap.size := ⟨_, rfl⟩
    rw [← hS] at hB6 hgb2
    have HH : Hid (w.heap.size + 1 < B6 ∧ B6 < S ∧ gb ≠ B6 ∧ gb < S ∧ w.heap.size + 1 < gb ∧ S = wc.heap.size) := ⟨by omega, hB6, hne9, hgb2, by omega, hS⟩
    have HI : Hid (H3c wc w.heap.size (.int .i64 V) (.slice pc N cc) (.slice pk M ck) ∧ H3c wc (w.heap.size + 1) (.int .i64 0) (.slice none 0 0) (.slice none 0 0) ∧ H3c wc B6 (.int .i64 V) (.slice none 0 0) (.slice (some ⟨gb, 0, none⟩) M cb) ∧ OI 62 wc w.heap.size (.slice (some ⟨gb, 0, none⟩) M cb) L ∧ Kp w wc) := ⟨sx, sr, sb, hoi.mono (by omega), kw⟩
    clear kc a3 a4 a5 r0 r1 r2 r3 r4 r5 hcN hne hB6 hne9 hgb1 hgb2 hge hsw hS sr sb hoi kw a0 a1 a2
    obtain ⟨a0, a1, a2, a3, a4, a5⟩ := id sx
    clear sx a3 a4 a5 a0 a1
    go_wp2
    clear a2
    go_loopw [7, 8, 31] (fun s7 s8 s31 wr => ∃ (i k : Nat) (pa : Option Addr) (ca : Nat), s31 = .int .i64 i ∧ i ≤ M ∧ k = cN (L.take i) ∧ H3c wr w.heap.size (.int .i64 V) (.slice pc N cc) (.slice pk M ck) ∧ H3c wr (w.heap.size + 1) (.int .i64 0) (.slice none 0 0) (.slice none 0 0) ∧ H3c wr B6 (.int .i64 V) (.slice pa k ca) (.slice (some ⟨gb, 0, none⟩) M cb) ∧ OG FLV 71 wr S (.slice pa k ca) (nCs ps (L.take i)) ∧ OI 62 wr w.heap.size (.slice (some ⟨gb, 0, none⟩) M cb) (nLs 0 (L.take i) ++ L.drop i) ∧ Kp w wr ∧ S ≤ wr.heap.size) (fun _ _ s31 _ => M - (intOf s31).toNat)
    case atStart => exact ⟨0, 0, none, 0, rfl, Nat.zero_le _, rfl, HI.out.1, HI.out.2.1, HI.out.2.2.1, OG.nil _ _ _ _, by simpa [nLs] using HI.out.2.2.2.1, HI.out.2.2.2.2, by rw [HH.out.2.2.2.2.2]; exact Nat.le_refl _⟩
    case round =>
      obtain ⟨i, k, pa, ca, rfl, hi, hk, sx, sr, sb, hog, hoi, hkp, hSz⟩ := hrel
      clear HI
      obtain ⟨hx, hy, hN, hM, hN2, hM2, hc2, hln⟩ := HX.out
      have hk2 := cN_take L i
      by_cases ci : i < M
      · have HJ : Hid (i < M) := ci
        obtain ⟨b, off, rfl, hc5⟩ := hy.at (k := i) (by omega)
        obtain ⟨e0, e1, e2, e3, e4⟩ := hc5 i (by omega)
        have hyes := step_yes ps L i (by omega)
        have hno := step_no ps L i (by omega)
        have hgc := good_const (hln i (by omega))
        have hlt2 := cN_take_lt L i (by omega)
        have hlen : (nLs 0 (L.take i) ++ L.drop i).length = M := by rw [List.length_append, nLs_len, List.length_take, List.length_drop]; omega
        have hget : ((nLs 0 (L.take i) ++ L.drop i).getD i D5) = L.getD i D5 := by
          rw [drop_at L i (by omega)]
          have hl : (nLs 0 (L.take i)).length = i := by rw [nLs_len, List.length_take]; omega
          simp [List.getD, hl]
        have hoi' : OI 62 wr w.heap.size (.slice (some ⟨gb, 0, none⟩) (nLs 0 (L.take i) ++ L.drop i).length cb) (nLs 0 (L.take i) ++ L.drop i) := by rw [hlen]; exact hoi
        obtain ⟨q4, q5⟩ := OI.at4 hoi' (i := i) (by omega)
        rw [hget] at q4
        have hput := fun z => OI.put4 hoi' (i := i) (by omega) z
        rw [hget] at hput
        obtain ⟨X, hX⟩ : ∃ X, X = L.getD i D5 := ⟨_, rfl⟩
        rw [← hX] at e0 e1 e2 e3 e4 hyes hno hgc hlt2 q4 hput
        obtain ⟨x0, x1, x2, x3, x4⟩ := X
        simp only at e0 e1 e2 e3 e4 hyes hno hgc hlt2 q4
        replace e0 := kkeep hkp e0
        replace e1 := kkeep hkp e1
        replace e2 := kkeep hkp e2
        replace e3 := kkeep hkp e3
        replace e4 := kkeep hkp e4
        have kA : Kp wr (wr.alloc (.cells #[.int .i64 x0, .int .i64 x1, .int .i64 x2, .int .i64 x3, .int .i64 x4] 62)) := (Kp.refl wr).alloc _
        have hSA : S ≤ (wr.alloc (.cells #[.int .i64 x0, .int .i64 x1, .int .i64 x2, .int .i64 x3, .int .i64 x4] 62)).heap.size := by simp; omega
        by_cases c1 : x0 = 1
        · subst c1
          obtain ⟨t1, t2, t3, t4⟩ := hyes rfl
          obtain ⟨u1, u2⟩ := hgc rfl
          have u3 := hlt2 rfl
          obtain ⟨m, rfl⟩ := Int.eq_ofNat_of_zero_le u1
          rw [Int.toNat_natCast] at t2
          obtain ⟨b2, off2, rfl, hc9⟩ := hx.at (k := m) (by omega)
          obtain ⟨s3, s4⟩ := hc9 m (by omega)
          obtain ⟨Y, hY⟩ : ∃ Y, Y = ps.getD m (0, 0) := ⟨_, rfl⟩
          rw [← hY] at s3 s4 t2
          obtain ⟨Y1, Y2⟩ := Y
          simp only at s3 s4
          have hb2 := cell_lt s3
          have hh := HH.out
          have hgbw : gb < wr.heap.size := by omega
          obtain ⟨a0, a1, a2, a3, a4, a5⟩ := id sx
          have m1 : (m : Int) < (N : Int) := by omega
          have q4' := kkeep kA q4
          have q5' : (wr.alloc (.cells #[.int .i64 1, .int .i64 x1, .int .i64 x2, .int .i64 x3, .int .i64 (m : Int)] 62)).frozen? ⟨gb, i * 5 + 4, none⟩ = false := (kfro kA hgbw).trans q5
          have s1 : ((wr.alloc (.cells #[.int .i64 1, .int .i64 x1, .int .i64 x2, .int .i64 x3, .int .i64 (m : Int)] 62)).setCell ⟨gb, i * 5 + 4, none⟩ (.int .i64 (k : Int))).cell? ⟨w.heap.size, 1, none⟩ = some (.slice (some ⟨b2, off2, none⟩) N cc) := (World.cell?_setCell_far _ _ _ _ (show gb ≠ w.heap.size by omega)).trans (kkeep kA a1)
          have s2 : ((wr.alloc (.cells #[.int .i64 1, .int .i64 x1, .int .i64 x2, .int .i64 x3, .int .i64 (m : Int)] 62)).setCell ⟨gb, i * 5 + 4, none⟩ (.int .i64 (k : Int))).cell? ⟨wr.heap.size, 4, none⟩ = some (.int .i64 (m : Int)) := (World.cell?_setCell_far _ _ _ _ (show gb ≠ wr.heap.size by omega)).trans (by simp [go_sem])
          have s3' : ((wr.alloc (.cells #[.int .i64 1, .int .i64 x1, .int .i64 x2, .int .i64 x3, .int .i64 (m : Int)] 62)).setCell ⟨gb, i * 5 + 4, none⟩ (.int .i64 (k : Int))).cell? ⟨b2, off2 + m * 2, none⟩ = some (.float .f64 Y1) := (World.cell?_setCell_far _ _ _ _ (show gb ≠ b2 by omega)).trans (kkeep (hkp.trans kA) s3)
          have s4' : ((wr.alloc (.cells #[.int .i64 1, .int .i64 x1, .int .i64 x2, .int .i64 x3, .int .i64 (m : Int)] 62)).setCell ⟨gb, i * 5 + 4, none⟩ (.int .i64 (k : Int))).cell? ⟨b2, off2 + m * 2 + 1, none⟩ = some (.float .f64 Y2) := (World.cell?_setCell_far _ _ _ _ (show gb ≠ b2 by omega)).trans (kkeep (hkp.trans kA) s4)
          have sb1 : H3c ((wr.alloc (.cells #[.int .i64 1, .int .i64 x1, .int .i64 x2, .int .i64 x3, .int .i64 (m : Int)] 62)).setCell ⟨gb, i * 5 + 4, none⟩ (.int .i64 (k : Int))) B6 (.int .i64 V) (.slice pa k ca) (.slice (some ⟨gb, 0, none⟩) M cb) := H3c.far1 (sb.keep kA) _ hh.2.2.1 _
          have sx1 : H3c ((wr.alloc (.cells #[.int .i64 1, .int .i64 x1, .int .i64 x2, .int .i64 x3, .int .i64 (m : Int)] 62)).setCell ⟨gb, i * 5 + 4, none⟩ (.int .i64 (k : Int))) w.heap.size (.int .i64 V) (.slice (some ⟨b2, off2, none⟩) N cc) (.slice (some ⟨b, off, none⟩) M ck) := H3c.far1 (sx.keep kA) _ (show gb ≠ w.heap.size by omega) _
          have sr1 : H3c ((wr.alloc (.cells #[.int .i64 1, .int .i64 x1, .int .i64 x2, .int .i64 x3, .int .i64 (m : Int)] 62)).setCell ⟨gb, i * 5 + 4, none⟩ (.int .i64 (k : Int))) (w.heap.size + 1) (.int .i64 0) (.slice none 0 0) (.slice none 0 0) := H3c.far1 (sr.keep kA) _ (show gb ≠ w.heap.size + 1 by omega) _
          have og1 : OG FLV 71 ((wr.alloc (.cells #[.int .i64 1, .int .i64 x1, .int .i64 x2, .int .i64 x3, .int .i64 (m : Int)] 62)).setCell ⟨gb, i * 5 + 4, none⟩ (.int .i64 (k : Int))) S (.slice pa k ca) (nCs ps (L.take i)) := OG.setNe (hog.kp kA) (fun g hg => by have := og_block hog g hg; omega) _
          have hpa := og_lt hog
          have oi1 : OI 62 ((wr.alloc (.cells #[.int .i64 1, .int .i64 x1, .int .i64 x2, .int .i64 x3, .int .i64 (m : Int)] 62)).setCell ⟨gb, i * 5 + 4, none⟩ (.int .i64 (k : Int))) w.heap.size (.slice (some ⟨gb, 0, none⟩) M cb) (nLs 0 (L.take (i + 1)) ++ L.drop (i + 1)) := by
            have h := OI.put4 (hoi'.kp kA) (i := i) (by omega) (k : Int)
            rw [hget, ← hX, hlen] at h
            rw [t4, ← hk]
            exact h
          have kp1 : Kp w ((wr.alloc (.cells #[.int .i64 1, .int .i64 x1, .int .i64 x2, .int .i64 x3, .int .i64 (m : Int)] 62)).setCell ⟨gb, i * 5 + 4, none⟩ (.int .i64 (k : Int))) := (hkp.trans kA).setCell (show w.heap.size ≤ gb by omega) _
          have hS1 : S ≤ ((wr.alloc (.cells #[.int .i64 1, .int .i64 x1, .int .i64 x2, .int .i64 x3, .int .i64 (m : Int)] 62)).setCell ⟨gb, i * 5 + 4, none⟩ (.int .i64 (k : Int))).heap.size := by simp; omega
          have hsz1 : wr.heap.size < ((wr.alloc (.cells #[.int .i64 1, .int .i64 x1, .int .i64 x2, .int .i64 x3, .int .i64 (m : Int)] 62)).setCell ⟨gb, i * 5 + 4, none⟩ (.int .i64 (k : Int))).heap.size := by simp
          obtain ⟨b0, b1, b2', b3, b4, b5⟩ := id (H3c.keep sb kA)
          have hl9 : (nCs ps (L.take i)).length = k := by rw [nCs_len]; exact hk.symm
          have HR : Hid (k + 1 = cN (L.take (i + 1)) ∧ nCs ps (L.take (i + 1)) = nCs ps (L.take i) ++ [(Y1, Y2)] ∧ (nCs ps (L.take i) ++ [(Y1, Y2)]).length = k + 1 ∧ (nCs ps (L.take i)).length + 1 ≤ 1048576 ∧ (∀ g, (Value.slice pa k ca).ownBlock = some g → S ≤ g ∧ g < wr.heap.size) ∧ b2 < w.heap.size ∧ S ≤ wr.heap.size) := ⟨by rw [t1, hk], t2, by rw [List.length_append, hl9]; rfl, by omega, fun g hg => ⟨og_block hog g hg, hpa g hg⟩, hb2, hSz⟩
          clear hyes hno hgc hlt2 q4 q5 hput hX hc5 hx hy hN hM hN2 hM2 hc2 hln hk hk2 sx sr sb hog hoi hoi' hkp hSz hlen hget t1 t2 t3 t4 kA hSA HX a0 a1 a2 a3 a4 a5 s3 s4 hc9 hY u1 u2 u3 hb2 hh hgbw hpa hl9
          go_upto_region 12 with fail
          generalize ((wr.alloc (.cells #[.int .i64 1, .int .i64 x1, .int .i64 x2, .int .i64 x3, .int .i64 (m : Int)] 62)).setCell ⟨gb, i * 5 + 4, none⟩ (.int .i64 (k : Int))) = W11 at s1 s2 s3' s4' sb1 sx1 sr1 og1 oi1 kp1 hS1 hsz1 ⊢
          clear b0 b1 b2' b3 b4 b5 e0 e1 e2 e3 e4 q4' q5'
          have kD : Kp W11 (W11.alloc (.cells #[.float .f64 Y1, .float .f64 Y2] 71)) := (Kp.refl _).alloc _
          obtain ⟨b0, b1, b2', b3, b4, b5⟩ := id sb1
          have b1' := kkeep kD b1
          have hh := HH.out
          obtain ⟨r1, r2, r3, r4, r5, r6, r7⟩ := HR.out
          have n1 : (Value.slice pa k ca).ownBlock ≠ some w.heap.size := fun h => by have := r5 _ h; omega
          have n2 : (Value.slice pa k ca).ownBlock ≠ some wr.heap.size := fun h => by have := r5 _ h; omega
          have n3 : (Value.slice pa k ca).ownBlock ≠ some b2 := fun h => by have := r5 _ h; omega
          have p1 : B6 ≠ w.heap.size := by omega
          have p2 : B6 ≠ wr.heap.size := by omega
          have p3 : B6 ≠ b2 := by omega
          have p4 : B6 ≠ w.heap.size + 1 := by omega
          have p5 : w.heap.size ≤ B6 := by omega
          have HP : Hid (w.heap.size < S ∧ w.heap.size + 1 < S ∧ B6 < S ∧ gb < S ∧ gb ≠ B6) := ⟨by omega, by omega, by omega, by omega, hh.2.2.1⟩
          clear hh r1 r2 r5 r6 r7
          have m2 : (0 : Int) ≤ (m : Int) := by omega
          refine wp_region_noPanic ?_
          refine wp_region_held_drew (S := (fun w' => w'.cell? ⟨w.heap.size, 1, none⟩ = some (.slice (some ⟨b2, off2, none⟩) N cc) ∧ w'.cell? ⟨wr.heap.size, 4, none⟩ = some (.int .i64 (m : Int)) ∧ w'.cell? ⟨b2, off2 + m * 2, none⟩ = some (.float .f64 Y1) ∧ w'.cell? ⟨b2, off2 + m * 2 + 1, none⟩ = some (.float .f64 Y2))) (by kernel_rfl) ?_ (fun hHeld => ?_)
          · (refine ⟨(kkeep (W := W11) ?_ s1), (kkeep (W := W11) ?_ s2), (kkeep (W := W11) ?_ s3'), (kkeep (W := W11) ?_ s4')⟩ <;> ((repeat (first | with_reducible exact Kp.refl _ | with_reducible apply Kp.drew | with_reducible apply Kp.alloc)); done))
          refine wpAnyH_take (i := 0) (v := .pointer (some ⟨B6, 1, none⟩)) rfl (by kernel_rfl) (by kernel_rfl) (by kernel_rfl) (fun _ _ _ h => h) (Or.inl ⟨by rfl, ?_⟩) (by assumption) ?_
          · intro w hSw
            (try dsimp only at hSw)
            go_simp
          try simp only [Act.put, List.setIfInBounds_toArray, List.set_cons_zero, List.set_cons_succ]
          refine wpAnyH_take (i := 2) (v := .pointer (some ⟨w.heap.size, 1, none⟩)) rfl (by kernel_rfl) (by kernel_rfl) (by kernel_rfl) (fun _ _ _ h => h) (Or.inl ⟨by rfl, ?_⟩) (by assumption) ?_
          · intro w hSw
            (try dsimp only at hSw)
            go_simp
          try simp only [Act.put, List.setIfInBounds_toArray, List.set_cons_zero, List.set_cons_succ]
          refine wpAnyH_take (i := 3) (v := .slice (some ⟨b2, off2, none⟩) N cc) rfl (by kernel_rfl) (by kernel_rfl) (by kernel_rfl) (fun _ _ _ h => h) (Or.inl ⟨by rfl, ?_⟩) (by assumption) ?_
          · intro w hSw
            (try dsimp only at hSw)
            go_simp
          try simp only [Act.put, List.setIfInBounds_toArray, List.set_cons_zero, List.set_cons_succ]
          refine wpAnyH_take (i := 4) (v := .pointer (some ⟨wr.heap.size, 4, none⟩)) rfl (by kernel_rfl) (by kernel_rfl) (by kernel_rfl) (fun _ _ _ h => h) (Or.inl ⟨by rfl, ?_⟩) (by assumption) ?_
          · intro w hSw
            (try dsimp only at hSw)
            go_simp
          try simp only [Act.put, List.setIfInBounds_toArray, List.set_cons_zero, List.set_cons_succ]
          refine wpAnyH_take (i := 5) (v := .int .i64 (m : Int)) rfl (by kernel_rfl) (by kernel_rfl) (by kernel_rfl) (fun _ _ _ h => h) (Or.inl ⟨by rfl, ?_⟩) (by assumption) ?_
          · intro w hSw
            (try dsimp only at hSw)
            go_simp
          try simp only [Act.put, List.setIfInBounds_toArray, List.set_cons_zero, List.set_cons_succ]
          refine wpAnyH_take (i := 6) (v := .pointer (some ⟨b2, off2 + m * 2, none⟩)) rfl (by kernel_rfl) (by kernel_rfl) (by kernel_rfl) (fun _ _ _ h => h) (Or.inl ⟨by rfl, ?_⟩) (by assumption) ?_
          · intro w hSw
            (try dsimp only at hSw)
            go_simp
          try simp only [Act.put, List.setIfInBounds_toArray, List.set_cons_zero, List.set_cons_succ]
          refine wpAnyH_take (i := 7) (v := .agg #[.float .f64 Y1, .float .f64 Y2]) rfl (by kernel_rfl) (by kernel_rfl) (by kernel_rfl) (fun _ _ _ h => h) (Or.inl ⟨by rfl, ?_⟩) (by assumption) ?_
          · intro w hSw
            (try dsimp only at hSw)
            go_simp
          try simp only [Act.put, List.setIfInBounds_toArray, List.set_cons_zero, List.set_cons_succ]
          refine wpAnyH_ready (rs := [1, 8]) (by kernel_rfl) (by simp) ?_
          refine AllReadyH.cons rfl (fun K hK => ?_) (AllReadyH.cons rfl (fun K hK => ?_) AllReadyH.nil)
          · go_simp
            refine hK.out _ _ ?_ (fun hHeld => ?_)
            · (refine ⟨(kkeep (W := W11) ?_ s1), (kkeep (W := W11) ?_ s2), (kkeep (W := W11) ?_ s3'), (kkeep (W := W11) ?_ s4')⟩ <;> ((repeat (first | with_reducible exact Kp.refl _ | with_reducible apply Kp.drew | with_reducible apply Kp.alloc)); done))
            clear hK K
            try simp only [Act.put, List.setIfInBounds_toArray, List.set_cons_zero, List.set_cons_succ]
            refine wpAnyH_ready (rs := [8]) (by kernel_rfl) (by simp) ?_
            refine AllReadyH.cons rfl (fun K hK => ?_) AllReadyH.nil
            go_simp
            refine hK.out _ _ ?_ (fun hHeld => ?_)
            · (refine ⟨(kkeep (W := W11) ?_ s1), (kkeep (W := W11) ?_ s2), (kkeep (W := W11) ?_ s3'), (kkeep (W := W11) ?_ s4')⟩ <;> ((repeat (first | with_reducible exact Kp.refl _ | with_reducible apply Kp.drew | with_reducible apply Kp.alloc)); done))
            clear hK K
            try simp only [Act.put, List.setIfInBounds_toArray, List.set_cons_zero, List.set_cons_succ]
            refine wpAnyH_ready (rs := [9]) (by kernel_rfl) (by simp) ?_
            refine AllReadyH.cons rfl (fun K hK => ?_) AllReadyH.nil
            refine if_app2 (by rfl) _ _ 29 rfl _ _ rfl rfl (appF_ W11 _ S hS1 (by (repeat (first | exact Kp.refl _ | apply Kp.drew | apply Kp.alloc)); done) (.slice pa k ca) (nCs ps (L.take i)) W11.heap.size Y1 Y2 1 og1 (by simp [go_sem]) (by simp [go_sem]) r4) ?_
            rintro v' w2 ⟨hO, hbl, hsz2, hfar⟩
            obtain ⟨pa2, ca2, rfl⟩ := OG.arrN hO r3
            have t1 := hfar _ _ _ s1 n1
            have t2 := hfar _ _ _ s2 n2
            have t3 := hfar _ _ _ s3' n3
            have t4 := hfar _ _ _ s4' n3
            have sb2 := sb1.bel hbl HP.out.2.2.1
            obtain ⟨c0, c1, c2, c3, c4, c5⟩ := id sb2
            refine hK.out _ _ ?_ (fun hHeld => ?_)
            · exact ⟨t1, t2, t3, t4⟩
            clear hK K
            try simp only [Act.put, List.setIfInBounds_toArray, List.set_cons_zero, List.set_cons_succ]
            refine wpAnyH_take (i := 10) (v := .pointer (some ⟨B6, 1, none⟩)) rfl (by kernel_rfl) (by kernel_rfl) (by kernel_rfl) (fun _ _ _ h => h) (Or.inl ⟨by rfl, ?_⟩) (by assumption) ?_
            · intro w hSw
              (try dsimp only at hSw)
              go_simp
            try simp only [Act.put, List.setIfInBounds_toArray, List.set_cons_zero, List.set_cons_succ]
            refine wpAnyH_ready (rs := [11]) (by kernel_rfl) (by simp) ?_
            refine AllReadyH.cons rfl (fun K hK => ?_) AllReadyH.nil
            go_simp
            refine hK.out _ _ ?_ (fun hHeld => ?_)
            · exact ⟨(World.cell?_setCell_far _ _ _ _ p1).trans t1, (World.cell?_setCell_far _ _ _ _ p2).trans t2, (World.cell?_setCell_far _ _ _ _ p3).trans t3, (World.cell?_setCell_far _ _ _ _ p3).trans t4⟩
            clear hK K
            try simp only [Act.put, List.setIfInBounds_toArray, List.set_cons_zero, List.set_cons_succ]
            refine wpAnyH_done (by kernel_rfl) ?_ _
            refine NoPanic.normal ?_
            have hJ : i < M := HJ.out
            have hp := HP.out
            have rr := HR.out
            have HZ : Hid (k + 1 = cN (L.take (i + 1)) ∧ H3c (w2.setCell ⟨B6, 1, none⟩ (.slice pa2 (k + 1) ca2)) w.heap.size (.int .i64 V) (.slice (some ⟨b2, off2, none⟩) N cc) (.slice (some ⟨b, off, none⟩) M ck) ∧ H3c (w2.setCell ⟨B6, 1, none⟩ (.slice pa2 (k + 1) ca2)) (w.heap.size + 1) (.int .i64 0) (.slice none 0 0) (.slice none 0 0) ∧ H3c (w2.setCell ⟨B6, 1, none⟩ (.slice pa2 (k + 1) ca2)) B6 (.int .i64 V) (.slice pa2 (k + 1) ca2) (.slice (some ⟨gb, 0, none⟩) M cb) ∧ OG FLV 71 (w2.setCell ⟨B6, 1, none⟩ (.slice pa2 (k + 1) ca2)) S (.slice pa2 (k + 1) ca2) (nCs ps (L.take (i + 1))) ∧ OI 62 (w2.setCell ⟨B6, 1, none⟩ (.slice pa2 (k + 1) ca2)) w.heap.size (.slice (some ⟨gb, 0, none⟩) M cb) (nLs 0 (L.take (i + 1)) ++ L.drop (i + 1)) ∧ Kp w (w2.setCell ⟨B6, 1, none⟩ (.slice pa2 (k + 1) ca2)) ∧ S ≤ (w2.setCell ⟨B6, 1, none⟩ (.slice pa2 (k + 1) ca2)).heap.size) := ⟨rr.1, H3c.far1 (sx1.bel hbl hp.1) _ p1 _, H3c.far1 (sr1.bel hbl hp.2.1) _ p4 _, H3c.set1 sb2 _, by rw [rr.2.1]; exact OG.setNe hO (fun g hg => by have := og_block hO g hg; omega) _, OI.setNe (oi1.bel hbl (fun g hg => by cases hg; exact hp.2.2.2.1)) (fun g hg => by cases hg; exact hp.2.2.2.2) _, (Kp.below kp1 hbl (by omega)).setCell p5 _, by simp; omega⟩
            clear hO hbl hfar t1 t2 t3 t4 sb2 s1 s2 s3' s4' sb1 sx1 sr1 og1 oi1 kp1 hS1 hsz1 kD b0 b1 b1' b2' b3 b4 b5 n1 n2 n3 p1 p2 p3 p4 p5 rr hp HP HR r3 r4 hsz2
            go_wp2
            exact ⟨⟨i + 1, k + 1, pa2, ca2, by go_num, hJ, HZ.out⟩, by simp [intOf]; omega⟩
          · go_simp
            refine hK.out _ _ ?_ (fun hHeld => ?_)
            · (refine ⟨(kkeep (W := W11) ?_ s1), (kkeep (W := W11) ?_ s2), (kkeep (W := W11) ?_ s3'), (kkeep (W := W11) ?_ s4')⟩ <;> ((repeat (first | with_reducible exact Kp.refl _ | with_reducible apply Kp.drew | with_reducible apply Kp.alloc)); done))
            clear hK K
            try simp only [Act.put, List.setIfInBounds_toArray, List.set_cons_zero, List.set_cons_succ]
            refine wpAnyH_ready (rs := [1]) (by kernel_rfl) (by simp) ?_
            refine AllReadyH.cons rfl (fun K hK => ?_) AllReadyH.nil
            go_simp
            refine hK.out _ _ ?_ (fun hHeld => ?_)
            · (refine ⟨(kkeep (W := W11) ?_ s1), (kkeep (W := W11) ?_ s2), (kkeep (W := W11) ?_ s3'), (kkeep (W := W11) ?_ s4')⟩ <;> ((repeat (first | with_reducible exact Kp.refl _ | with_reducible apply Kp.drew | with_reducible apply Kp.alloc)); done))
            clear hK K
            try simp only [Act.put, List.setIfInBounds_toArray, List.set_cons_zero, List.set_cons_succ]
            refine wpAnyH_ready (rs := [9]) (by kernel_rfl) (by simp) ?_
            refine AllReadyH.cons rfl (fun K hK => ?_) AllReadyH.nil
            refine if_app2 (by rfl) _ _ 29 rfl _ _ rfl rfl (appF_ W11 _ S hS1 (by (repeat (first | exact Kp.refl _ | apply Kp.drew | apply Kp.alloc)); done) (.slice pa k ca) (nCs ps (L.take i)) W11.heap.size Y1 Y2 1 og1 (by simp [go_sem]) (by simp [go_sem]) r4) ?_
            rintro v' w2 ⟨hO, hbl, hsz2, hfar⟩
            obtain ⟨pa2, ca2, rfl⟩ := OG.arrN hO r3
            have t1 := hfar _ _ _ s1 n1
            have t2 := hfar _ _ _ s2 n2
            have t3 := hfar _ _ _ s3' n3
            have t4 := hfar _ _ _ s4' n3
            have sb2 := sb1.bel hbl HP.out.2.2.1
            obtain ⟨c0, c1, c2, c3, c4, c5⟩ := id sb2
            refine hK.out _ _ ?_ (fun hHeld => ?_)
            · exact ⟨t1, t2, t3, t4⟩
            clear hK K
            try simp only [Act.put, List.setIfInBounds_toArray, List.set_cons_zero, List.set_cons_succ]
            refine wpAnyH_take (i := 10) (v := .pointer (some ⟨B6, 1, none⟩)) rfl (by kernel_rfl) (by kernel_rfl) (by kernel_rfl) (fun _ _ _ h => h) (Or.inl ⟨by rfl, ?_⟩) (by assumption) ?_
            · intro w hSw
              (try dsimp only at hSw)
              go_simp
            try simp only [Act.put, List.setIfInBounds_toArray, List.set_cons_zero, List.set_cons_succ]
            refine wpAnyH_ready (rs := [11]) (by kernel_rfl) (by simp) ?_
            refine AllReadyH.cons rfl (fun K hK => ?_) AllReadyH.nil
            go_simp
            refine hK.out _ _ ?_ (fun hHeld => ?_)
            · exact ⟨(World.cell?_setCell_far _ _ _ _ p1).trans t1, (World.cell?_setCell_far _ _ _ _ p2).trans t2, (World.cell?_setCell_far _ _ _ _ p3).trans t3, (World.cell?_setCell_far _ _ _ _ p3).trans t4⟩
            clear hK K
            try simp only [Act.put, List.setIfInBounds_toArray, List.set_cons_zero, List.set_cons_succ]
            refine wpAnyH_done (by kernel_rfl) ?_ _
            refine NoPanic.normal ?_
            have hJ : i < M := HJ.out
            have hp := HP.out
            have rr := HR.out
            have HZ : Hid (k + 1 = cN (L.take (i + 1)) ∧ H3c (w2.setCell ⟨B6, 1, none⟩ (.slice pa2 (k + 1) ca2)) w.heap.size (.int .i64 V) (.slice (some ⟨b2, off2, none⟩) N cc) (.slice (some ⟨b, off, none⟩) M ck) ∧ H3c (w2.setCell ⟨B6, 1, none⟩ (.slice pa2 (k + 1) ca2)) (w.heap.size + 1) (.int .i64 0) (.slice none 0 0) (.slice none 0 0) ∧ H3c (w2.setCell ⟨B6, 1, none⟩ (.slice pa2 (k + 1) ca2)) B6 (.int .i64 V) (.slice pa2 (k + 1) ca2) (.slice (some ⟨gb, 0, none⟩) M cb) ∧ OG FLV 71 (w2.setCell ⟨B6, 1, none⟩ (.slice pa2 (k + 1) ca2)) S (.slice pa2 (k + 1) ca2) (nCs ps (L.take (i + 1))) ∧ OI 62 (w2.setCell ⟨B6, 1, none⟩ (.slice pa2 (k + 1) ca2)) w.heap.size (.slice (some ⟨gb, 0, none⟩) M cb) (nLs 0 (L.take (i + 1)) ++ L.drop (i + 1)) ∧ Kp w (w2.setCell ⟨B6, 1, none⟩ (.slice pa2 (k + 1) ca2)) ∧ S ≤ (w2.setCell ⟨B6, 1, none⟩ (.slice pa2 (k + 1) ca2)).heap.size) := ⟨rr.1, H3c.far1 (sx1.bel hbl hp.1) _ p1 _, H3c.far1 (sr1.bel hbl hp.2.1) _ p4 _, H3c.set1 sb2 _, by rw [rr.2.1]; exact OG.setNe hO (fun g hg => by have := og_block hO g hg; omega) _, OI.setNe (oi1.bel hbl (fun g hg => by cases hg; exact hp.2.2.2.1)) (fun g hg => by cases hg; exact hp.2.2.2.2) _, (Kp.below kp1 hbl (by omega)).setCell p5 _, by simp; omega⟩
            clear hO hbl hfar t1 t2 t3 t4 sb2 s1 s2 s3' s4' sb1 sx1 sr1 og1 oi1 kp1 hS1 hsz1 kD b0 b1 b1' b2' b3 b4 b5 n1 n2 n3 p1 p2 p3 p4 p5 rr hp HP HR r3 r4 hsz2
            go_wp2
            exact ⟨⟨i + 1, k + 1, pa2, ca2, by go_num, hJ, HZ.out⟩, by simp [intOf]; omega⟩
        · obtain ⟨t1, t2, t3, t4⟩ := hno c1
          have d1 : (x0 == 1) = false := beq_eq_false_iff_ne.2 c1
          have HR : Hid (k = cN (L.take (i + 1)) ∧ H3c (wr.alloc (.cells #[.int .i64 x0, .int .i64 x1, .int .i64 x2, .int .i64 x3, .int .i64 x4] 62)) w.heap.size (.int .i64 V) (.slice pc N cc) (.slice (some ⟨b, off, none⟩) M ck) ∧ H3c (wr.alloc (.cells #[.int .i64 x0, .int .i64 x1, .int .i64 x2, .int .i64 x3, .int .i64 x4] 62)) (w.heap.size + 1) (.int .i64 0) (.slice none 0 0) (.slice none 0 0) ∧ H3c (wr.alloc (.cells #[.int .i64 x0, .int .i64 x1, .int .i64 x2, .int .i64 x3, .int .i64 x4] 62)) B6 (.int .i64 V) (.slice pa k ca) (.slice (some ⟨gb, 0, none⟩) M cb) ∧ OG FLV 71 (wr.alloc (.cells #[.int .i64 x0, .int .i64 x1, .int .i64 x2, .int .i64 x3, .int .i64 x4] 62)) S (.slice pa k ca) (nCs ps (L.take (i + 1))) ∧ OI 62 (wr.alloc (.cells #[.int .i64 x0, .int .i64 x1, .int .i64 x2, .int .i64 x3, .int .i64 x4] 62)) w.heap.size (.slice (some ⟨gb, 0, none⟩) M cb) (nLs 0 (L.take (i + 1)) ++ L.drop (i + 1)) ∧ Kp w (wr.alloc (.cells #[.int .i64 x0, .int .i64 x1, .int .i64 x2, .int .i64 x3, .int .i64 x4] 62)) ∧ S ≤ (wr.alloc (.cells #[.int .i64 x0, .int .i64 x1, .int .i64 x2, .int .i64 x3, .int .i64 x4] 62)).heap.size) := ⟨by rw [t1]; exact hk, sx.keep kA, sr.keep kA, sb.keep kA, by rw [t2]; exact hog.kp kA, by rw [t4]; exact hoi.kp kA, hkp.trans kA, hSA⟩
          clear hyes hno hgc hlt2 q4 q5 hput hX hc5 hx hy hN hM hN2 hM2 hc2 hln hk hk2 sx sr sb hog hoi hoi' hkp hSz hlen hget t1 t2 t3 t4 kA hSA HX
          go_wp2
          have hJ : i < M := HJ.out
          exact ⟨⟨i + 1, k, pa, ca, by go_num, hJ, HR.out⟩, by simp [intOf]; omega⟩
      · have hiM : i = M := by omega
        rw [show L.take i = L from List.take_of_length_le (by omega)] at hk hog hoi
        rw [show L.drop i = [] from List.drop_of_length_le (by omega), List.append_nil] at hoi
        subst hiM
        have hh := HH.out
        have HZ : Hid (OG FLV 71 wr S (.slice pa k ca) (nCs ps L) ∧ OI 62 wr w.heap.size (.slice (some ⟨gb, 0, none⟩) i cb) (nLs 0 L) ∧ Kp w wr ∧ k = cN L ∧ S ≤ wr.heap.size) := ⟨hog, hoi, hkp, hk, hSz⟩
        obtain ⟨b0, b1, b2, b3, b4, b5⟩ := id sb
        obtain ⟨r0, r1, r2, r3, r4, r5⟩ := id sr
        clear hx hy hN hM hN2 hM2 hc2 hln hk hk2 hog hoi hkp hSz HX hh sb sx sr
        go_wp2
        have hh := HH.out
        obtain ⟨zg, zi, zk, zc, zs⟩ := HZ.out
        have hog := og_sets3 zg (b := w.heap.size + 1) (fun g hg => by have := og_block zg g hg; omega) (.int .i64 V) (.slice pa k ca) (.slice (some ⟨gb, 0, none⟩) i cb)
        have hoi := oi_sets3 zi (b := w.heap.size + 1) (fun g hg => by have e : gb = g := (by simpa [Value.ownBlock] using hg); omega) (.int .i64 V) (.slice pa k ca) (.slice (some ⟨gb, 0, none⟩) i cb)
        obtain ⟨pa', ca', ea, aa, -⟩ := hog.arr
        obtain ⟨pb', cb', eb, ab, -, -⟩ := hoi.arr
        simp only [Value.slice.injEq] at ea eb
        obtain ⟨rfl, -, rfl⟩ := ea
        obtain ⟨rfl, -, rfl⟩ := eb
        refine bodyPost_ret (v := .tuple #[.agg #[.int .i64 V, .slice pa k ca, .slice (some ⟨gb, 0, none⟩) i cb], .int .i64 0]) (by simp [results, Try.results16, go_sem, r0, r1, r2]) rfl ⟨pa, ca, some ⟨gb, 0, none⟩, cb, by rw [zc], aa, ab, ((zk.setCell (by simp) _).setCell (by simp) _).setCell (by simp) _⟩
end X7
end Go.Proofs.Ytipedmnipolmeaa
namespace Go.Proofs.Ytipedmnipolmeaa
open Go.RowKit
open Go
namespace X7
set_option linter.unusedVariables false
set_option linter.unusedSimpArgs false
theorem H3c.set0 {w : World} {b : Nat} {v0 v1 v2 : Value} (h : H3c w b v0 v1 v2) (u : Value) : H3c (w.setCell ⟨b, 0, none⟩ u) b u v1 v2 := by
  obtain ⟨h0, h1, h2, h3, h4, h5⟩ := h
  unfold H3c; simp [go_sem, h0, h1, h2, h3, h4, h5]
theorem H5c.set4 {w : World} {b : Nat} {v0 v1 v2 v3 v4 : Value} (h : H5c w b v0 v1 v2 v3 v4) (u : Value) : H5c (w.setCell ⟨b, 4, none⟩ u) b v0 v1 v2 v3 u := by
  obtain ⟨h0, h1, h2, h3, h4, h5, h6, h7, h8, h9⟩ := h
  unfold H5c; simp [go_sem, h0, h1, h2, h3, h4, h5, h6, h7, h8, h9]
theorem appU_ (W Wx : World) (S : Nat) (hS : S ≤ W.heap.size) (k : Kp W Wx) (v : Value) (qs : List (Nat × Nat)) (b x y c : Nat) (hown : OG ULV 66 W S v qs) (e1 : Wx.cell? ⟨b, 0, none⟩ = some (.int .u64 (x : Int))) (e2 : Wx.cell? ⟨b, 1, none⟩ = some (.int .u64 (y : Int))) (hb : qs.length + 1 ≤ 1048576) :
    ∃ v' w', (Builtin.append_ #[22, 22] 22 #[v, .slice (some ⟨b, 0, none⟩) 1 c]).run Try.prog Wx = .ok v' w' ∧ (OG ULV 66 w' S v' (qs ++ [(x, y)]) ∧ Below S W w' ∧ W.heap.size ≤ w'.heap.size ∧ (∀ (b o : Nat) (u : Value), W.cell? ⟨b, o, none⟩ = some u → v.ownBlock ≠ some b → w'.cell? ⟨b, o, none⟩ = some u) ∧ (∀ (b o : Nat), b < W.heap.size → v.ownBlock ≠ some b → w'.frozen? ⟨b, o, none⟩ = W.frozen? ⟨b, o, none⟩) ∧ (∀ (T2 : TypeId) (base : Nat) (v2 : Value) (L2 : List I5), OI T2 W base v2 L2 → (∀ g, v2.ownBlock = some g → v.ownBlock ≠ some g) → OI T2 w' base v2 L2) ∧ (v'.ownBlock = v.ownBlock ∨ ∃ g, v'.ownBlock = some g ∧ W.heap.size ≤ g)) := by
  obtain ⟨i0, hi0, hi1, hi2, hi3⟩ := infJ
  have hsz := Below.size k
  have hox : OG ULV 66 Wx S v qs := hown.kp k
  obtain ⟨v', w', hr, ho, hg, -, h5⟩ := run_append_own_at (P := Try.prog) Wx S 22 22 66 i0 (.agg #[.int .u64 0, .int .u64 0]) 2 16 Try.underlying22 hi0 hi1 hi2 hi3 rfl (by decide) v qs.length (flat ULV qs) hox ⟨b, 0, none⟩ 1 c [.int .u64 (x : Int), .int .u64 (y : Int)] rfl (fun j u hu => by
    match j, hu with
    | 0, hu => rw [addr_add, Nat.add_zero, e1]; simpa using hu
    | 1, hu => rw [addr_add, e2]; simpa using hu) (fun u hu => by simp at hu; rcases hu with rfl | rfl <;> rfl) (by unfold maxLen; omega) (by omega) (by omega)
  refine ⟨v', w', hr, OG.push ho, Below.grown (Below.mono k hS) hg (by omega) (og_block hox), Nat.le_trans hsz hg.size, fun b o u h hne => (hg.cell_far ⟨b, o, none⟩ (cell_lt (kkeep k h)) (fun e => hne e.symm)).trans (kkeep k h), fun b o hlt hne => ?_, fun T2 base v2 L2 h hne => ?_, ?_⟩
  · have h1 : w'.heap[b]? = Wx.heap[b]? := hg.block b (Nat.lt_of_lt_of_le hlt hsz) (fun e => hne e.symm)
    exact (World.frozen?_of_block (w := Wx) h1).trans (World.frozen?_of_block (w := W) (Below.block k b hlt))
  · refine World.ownsRow.kept (OI.kp h k) hg ?_
    cases e : v2.ownBlock with
    | none => exact Or.inl rfl
    | some g => exact Or.inr (fun h9 => hne g e h9.symm)
  · rcases h5 with h5 | h5
    · exact Or.inl h5
    · exact Or.inr ⟨_, h5, hsz⟩
set_option maxRecDepth 20000 in
set_option maxHeartbeats 4000000 in
theorem rnormE_ (V : Int) (pc pk : Option Addr) (cc ck : Nat) (ps : List (Nat × Nat)) (L : List I5) (he : (chk V ps L).2 ≠ 0) (w : World) (hx : AG ULV w pc ps) (hy : AI w pk L) (hw : Wq ps) (lx : ps.length ≤ 1048576) (ly : L.length ≤ 1048576) :
    Calls Try.prog 17 #[.agg #[.int .i64 V, .slice pc ps.length cc, .slice pk L.length ck]] w fun e w' => e = .returned (.tuple #[.agg #[.int .i64 0, .slice none 0 0, .slice none 0 0], .int .i64 (chk V ps L).2]) ∧ Kp w w' := by
  obtain ⟨R, hR⟩ : ∃ R, R = chk V ps L := ⟨_, rfl⟩
  have hch := fun (W : World) (g : Kp w W) => rcheck_ V pc pk cc ck ps L W (hx.grown g) (hy.grown g) hw lx ly
  rw [← hR] at hch
  have htm := fun (W : World) (g : Kp w W) => rconsts_ V pc pk cc ck ps.length L W (hy.grown g) ly
  rw [← hR] at he ⊢
  generalize ps.length = N at hch ⊢
  generalize L.length = M at hch ⊢
  obtain ⟨n, e⟩ := R
  simp only at hch he ⊢
  have dE : (e == 0) = false := beq_eq_false_iff_ne.2 he
  have dE' : (e != 0) = true := by simpa using he
  have sx : H3c (((w.alloc (.cells #[.int .i64 V, .slice pc N cc, .slice pk M ck] 25)).alloc (.cells #[.int .i64 0, .slice none 0 0, .slice none 0 0] 25)).alloc (.cells #[.int .i64 0, .slice none 0 0, .slice none 0 0] 25)) w.heap.size (.int .i64 V) (.slice pc N cc) (.slice pk M ck) := H3c.keep (H3c.new w (.int .i64 V) (.slice pc N cc) (.slice pk M ck) 25) (((Kp.refl _).alloc _).alloc _)
  have sr : H3c (((w.alloc (.cells #[.int .i64 V, .slice pc N cc, .slice pk M ck] 25)).alloc (.cells #[.int .i64 0, .slice none 0 0, .slice none 0 0] 25)).alloc (.cells #[.int .i64 0, .slice none 0 0, .slice none 0 0] 25)) (w.heap.size + 1) (.int .i64 0) (.slice none 0 0) (.slice none 0 0) := by
    have h := H3c.new (w.alloc (.cells #[.int .i64 V, .slice pc N cc, .slice pk M ck] 25)) (.int .i64 0) (.slice none 0 0) (.slice none 0 0) 25
    rw [show (w.alloc (.cells #[.int .i64 V, .slice pc N cc, .slice pk M ck] 25)).heap.size = w.heap.size + 1 from by simp] at h
    exact H3c.keep h ((Kp.refl _).alloc _)
  have sb : H3c (((w.alloc (.cells #[.int .i64 V, .slice pc N cc, .slice pk M ck] 25)).alloc (.cells #[.int .i64 0, .slice none 0 0, .slice none 0 0] 25)).alloc (.cells #[.int .i64 0, .slice none 0 0, .slice none 0 0] 25)) (w.heap.size + 2) (.int .i64 0) (.slice none 0 0) (.slice none 0 0) := by
    have h := H3c.new ((w.alloc (.cells #[.int .i64 V, .slice pc N cc, .slice pk M ck] 25)).alloc (.cells #[.int .i64 0, .slice none 0 0, .slice none 0 0] 25)) (.int .i64 0) (.slice none 0 0) (.slice none 0 0) 25
    rw [show ((w.alloc (.cells #[.int .i64 V, .slice pc N cc, .slice pk M ck] 25)).alloc (.cells #[.int .i64 0, .slice none 0 0, .slice none 0 0] 25)).heap.size = w.heap.size + 2 from by simp] at h
    exact h
  have kw : Kp w (((w.alloc (.cells #[.int .i64 V, .slice pc N cc, .slice pk M ck] 25)).alloc (.cells #[.int .i64 0, .slice none 0 0, .slice none 0 0] 25)).alloc (.cells #[.int .i64 0, .slice none 0 0, .slice none 0 0] 25)) := (((Kp.refl w).alloc _).alloc _).alloc _
  have hsw : w.heap.size + 2 < (((w.alloc (.cells #[.int .i64 V, .slice pc N cc, .slice pk M ck] 25)).alloc (.cells #[.int .i64 0, .slice none 0 0, .slice none 0 0] 25)).alloc (.cells #[.int .i64 0, .slice none 0 0, .slice none 0 0] 25)).heap.size := by simp
  clear he hR hx hy hw lx ly htm
  go_enter Try.func17, Try.ntmps17
  go_upto_region 2 with fail
  generalize (((w.alloc (.cells #[.int .i64 V, .slice pc N cc, .slice pk M ck] 25)).alloc (.cells #[.int .i64 0, .slice none 0 0, .slice none 0 0] 25)).alloc (.cells #[.int .i64 0, .slice none 0 0, .slice none 0 0] 25)) = W at sx sr sb kw hsw ⊢
  obtain ⟨a0, a1, a2, a3, a4, a5⟩ := id sx
  obtain ⟨r0, r1, r2, r3, r4, r5⟩ := id sr
  obtain ⟨b0, b1, b2, b3, b4, b5⟩ := id sb
  go_wp2_with (first | (go_at_call 8; refine (hch _ kw).mono ?_; rintro e1 w1 ⟨rfl, g1⟩; replace kw := kw.trans g1; replace sx := sx.keep g1; replace sr := sr.keep g1; replace sb := sb.keep g1; replace hsw := Nat.lt_of_lt_of_le hsw (Below.size g1); clear a0 a1 a2 a3 a4 a5 r0 r1 r2 r3 r4 r5 b0 b1 b2 b3 b4 b5; obtain ⟨a0, a1, a2, a3, a4, a5⟩ := id sx; obtain ⟨r0, r1, r2, r3, r4, r5⟩ := id sr; obtain ⟨b0, b1, b2, b3, b4, b5⟩ := id sb; clear g1))
  exact bodyPost_ret (v := .tuple #[.agg #[.int .i64 0, .slice none 0 0, .slice none 0 0], .int .i64 e]) (by simp [results, Try.results17, go_sem, r0, r1, r2]) rfl ⟨rfl, ((kw.setCell (by simp) _).setCell (by simp) _).setCell (by simp) _⟩
set_option maxRecDepth 20000 in
set_option maxHeartbeats 4000000 in
theorem rnormT_ (V : Int) (pc pk : Option Addr) (cc ck : Nat) (ps : List (Nat × Nat)) (L : List I5) (he : (chk V ps L).2 = 0) (hc : ¬ cN L ≤ 256) (w : World) (hx : AG ULV w pc ps) (hy : AI w pk L) (hw : Wq ps) (lx : ps.length ≤ 1048576) (ly : L.length ≤ 1048576) :
    Calls Try.prog 17 #[.agg #[.int .i64 V, .slice pc ps.length cc, .slice pk L.length ck]] w fun e w' => e = .returned (.tuple #[.agg #[.int .i64 0, .slice none 0 0, .slice none 0 0], .int .i64 161]) ∧ Kp w w' := by
  obtain ⟨R, hR⟩ : ∃ R, R = chk V ps L := ⟨_, rfl⟩
  have hch := fun (W : World) (g : Kp w W) => rcheck_ V pc pk cc ck ps L W (hx.grown g) (hy.grown g) hw lx ly
  rw [← hR] at hch
  have htm := fun (W : World) (g : Kp w W) => rconsts_ V pc pk cc ck ps.length L W (hy.grown g) ly
  rw [← hR] at he
  have hcT : (256 : Int) < (cN L : Int) := by omega
  generalize ps.length = N at hch htm ⊢
  generalize L.length = M at hch htm ⊢
  generalize (cN L : Int) = Z at htm hcT
  obtain ⟨n, e⟩ := R
  simp only at hch he
  subst he
  have sx : H3c (((w.alloc (.cells #[.int .i64 V, .slice pc N cc, .slice pk M ck] 25)).alloc (.cells #[.int .i64 0, .slice none 0 0, .slice none 0 0] 25)).alloc (.cells #[.int .i64 0, .slice none 0 0, .slice none 0 0] 25)) w.heap.size (.int .i64 V) (.slice pc N cc) (.slice pk M ck) := H3c.keep (H3c.new w (.int .i64 V) (.slice pc N cc) (.slice pk M ck) 25) (((Kp.refl _).alloc _).alloc _)
  have sr : H3c (((w.alloc (.cells #[.int .i64 V, .slice pc N cc, .slice pk M ck] 25)).alloc (.cells #[.int .i64 0, .slice none 0 0, .slice none 0 0] 25)).alloc (.cells #[.int .i64 0, .slice none 0 0, .slice none 0 0] 25)) (w.heap.size + 1) (.int .i64 0) (.slice none 0 0) (.slice none 0 0) := by
    have h := H3c.new (w.alloc (.cells #[.int .i64 V, .slice pc N cc, .slice pk M ck] 25)) (.int .i64 0) (.slice none 0 0) (.slice none 0 0) 25
    rw [show (w.alloc (.cells #[.int .i64 V, .slice pc N cc, .slice pk M ck] 25)).heap.size = w.heap.size + 1 from by simp] at h
    exact H3c.keep h ((Kp.refl _).alloc _)
  have sb : H3c (((w.alloc (.cells #[.int .i64 V, .slice pc N cc, .slice pk M ck] 25)).alloc (.cells #[.int .i64 0, .slice none 0 0, .slice none 0 0] 25)).alloc (.cells #[.int .i64 0, .slice none 0 0, .slice none 0 0] 25)) (w.heap.size + 2) (.int .i64 0) (.slice none 0 0) (.slice none 0 0) := by
    have h := H3c.new ((w.alloc (.cells #[.int .i64 V, .slice pc N cc, .slice pk M ck] 25)).alloc (.cells #[.int .i64 0, .slice none 0 0, .slice none 0 0] 25)) (.int .i64 0) (.slice none 0 0) (.slice none 0 0) 25
    rw [show ((w.alloc (.cells #[.int .i64 V, .slice pc N cc, .slice pk M ck] 25)).alloc (.cells #[.int .i64 0, .slice none 0 0, .slice none 0 0] 25)).heap.size = w.heap.size + 2 from by simp] at h
    exact h
  have kw : Kp w (((w.alloc (.cells #[.int .i64 V, .slice pc N cc, .slice pk M ck] 25)).alloc (.cells #[.int .i64 0, .slice none 0 0, .slice none 0 0] 25)).alloc (.cells #[.int .i64 0, .slice none 0 0, .slice none 0 0] 25)) := (((Kp.refl w).alloc _).alloc _).alloc _
  have hsw : w.heap.size + 2 < (((w.alloc (.cells #[.int .i64 V, .slice pc N cc, .slice pk M ck] 25)).alloc (.cells #[.int .i64 0, .slice none 0 0, .slice none 0 0] 25)).alloc (.cells #[.int .i64 0, .slice none 0 0, .slice none 0 0] 25)).heap.size := by simp
  clear hR hx hy hw lx ly hc
  go_enter Try.func17, Try.ntmps17
  go_upto_region 2 with fail
  generalize (((w.alloc (.cells #[.int .i64 V, .slice pc N cc, .slice pk M ck] 25)).alloc (.cells #[.int .i64 0, .slice none 0 0, .slice none 0 0] 25)).alloc (.cells #[.int .i64 0, .slice none 0 0, .slice none 0 0] 25)) = W at sx sr sb kw hsw ⊢
  obtain ⟨a0, a1, a2, a3, a4, a5⟩ := id sx
  obtain ⟨r0, r1, r2, r3, r4, r5⟩ := id sr
  obtain ⟨b0, b1, b2, b3, b4, b5⟩ := id sb
  go_wp2_with (first | (go_at_call 8; refine (hch _ kw).mono ?_; rintro e1 w1 ⟨rfl, g1⟩; replace kw := kw.trans g1; replace sx := sx.keep g1; replace sr := sr.keep g1; replace sb := sb.keep g1; replace hsw := Nat.lt_of_lt_of_le hsw (Below.size g1); clear a0 a1 a2 a3 a4 a5 r0 r1 r2 r3 r4 r5 b0 b1 b2 b3 b4 b5; obtain ⟨a0, a1, a2, a3, a4, a5⟩ := id sx; obtain ⟨r0, r1, r2, r3, r4, r5⟩ := id sr; obtain ⟨b0, b1, b2, b3, b4, b5⟩ := id sb; clear g1) | (go_at_call 39; refine (htm _ kw).mono ?_; rintro e2 w2 ⟨rfl, g2⟩; replace kw := kw.trans g2; replace sx := sx.keep g2; replace sr := sr.keep g2; replace sb := sb.keep g2; replace hsw := Nat.lt_of_lt_of_le hsw (Below.size g2); clear a0 a1 a2 a3 a4 a5 r0 r1 r2 r3 r4 r5 b0 b1 b2 b3 b4 b5; obtain ⟨a0, a1, a2, a3, a4, a5⟩ := id sx; obtain ⟨r0, r1, r2, r3, r4, r5⟩ := id sr; obtain ⟨b0, b1, b2, b3, b4, b5⟩ := id sb; clear g2))
  exact bodyPost_ret (v := .tuple #[.agg #[.int .i64 0, .slice none 0 0, .slice none 0 0], .int .i64 161]) (by simp [results, Try.results17, go_sem, r0, r1, r2]) rfl ⟨rfl, ((kw.setCell (by simp) _).setCell (by simp) _).setCell (by simp) _⟩
set_option maxRecDepth 20000 in
set_option maxHeartbeats 4000000 in
theorem rnormO_ (V : Int) (pc pk : Option Addr) (cc ck : Nat) (ps : List (Nat × Nat)) (L : List I5) (he : (chk V ps L).2 = 0) (hc : cN L ≤ 256) (w : World) (hx : AG ULV w pc ps) (hy : AI w pk L) (hw : Wq ps) (lx : ps.length ≤ 1048576) (ly : L.length ≤ 1048576) :
    Calls Try.prog 17 #[.agg #[.int .i64 V, .slice pc ps.length cc, .slice pk L.length ck]] w fun e w' => ∃ pa ca pb cb, e = .returned (.tuple #[.agg #[.int .i64 V, .slice pa (nCs ps L).length ca, .slice pb (nLs 0 L).length cb], .int .i64 0]) ∧ AG ULV w' pa (nCs ps L) ∧ AI w' pb (nLs 0 L) ∧ Kp w w' := by
  have hgd := chk_good he
  obtain ⟨R, hR⟩ : ∃ R, R = chk V ps L := ⟨_, rfl⟩
  have hch := fun (W : World) (g : Kp w W) => rcheck_ V pc pk cc ck ps L W (hx.grown g) (hy.grown g) hw lx ly
  rw [← hR] at hch
  have htm := fun (W : World) (g : Kp w W) => rconsts_ V pc pk cc ck ps.length L W (hy.grown g) ly
  rw [← hR] at he
  have hcT : ¬ ((256 : Int) < (cN L : Int)) := by omega
  rw [nCs_len, nLs_len]
  obtain ⟨N, hN⟩ : ∃ N, N = ps.length := ⟨_, rfl⟩
  obtain ⟨M, hM⟩ : ∃ M, M = L.length := ⟨_, rfl⟩
  rw [← hN] at hch htm ⊢
  rw [← hM] at hch htm ⊢
  obtain ⟨Z, hZ⟩ : ∃ Z : Int, Z = (cN L : Int) := ⟨_, rfl⟩
  rw [← hZ] at htm hcT
  obtain ⟨n, e⟩ := R
  simp only at hch he
  subst he
  obtain ⟨i0, hi0, hi1, hi2, hi3⟩ := infM
  have sx : H3c (((w.alloc (.cells #[.int .i64 V, .slice pc N cc, .slice pk M ck] 25)).alloc (.cells #[.int .i64 0, .slice none 0 0, .slice none 0 0] 25)).alloc (.cells #[.int .i64 0, .slice none 0 0, .slice none 0 0] 25)) w.heap.size (.int .i64 V) (.slice pc N cc) (.slice pk M ck) := H3c.keep (H3c.new w (.int .i64 V) (.slice pc N cc) (.slice pk M ck) 25) (((Kp.refl _).alloc _).alloc _)
  have sr : H3c (((w.alloc (.cells #[.int .i64 V, .slice pc N cc, .slice pk M ck] 25)).alloc (.cells #[.int .i64 0, .slice none 0 0, .slice none 0 0] 25)).alloc (.cells #[.int .i64 0, .slice none 0 0, .slice none 0 0] 25)) (w.heap.size + 1) (.int .i64 0) (.slice none 0 0) (.slice none 0 0) := by
    have h := H3c.new (w.alloc (.cells #[.int .i64 V, .slice pc N cc, .slice pk M ck] 25)) (.int .i64 0) (.slice none 0 0) (.slice none 0 0) 25
    rw [show (w.alloc (.cells #[.int .i64 V, .slice pc N cc, .slice pk M ck] 25)).heap.size = w.heap.size + 1 from by simp] at h
    exact H3c.keep h ((Kp.refl _).alloc _)
  have sb : H3c (((w.alloc (.cells #[.int .i64 V, .slice pc N cc, .slice pk M ck] 25)).alloc (.cells #[.int .i64 0, .slice none 0 0, .slice none 0 0] 25)).alloc (.cells #[.int .i64 0, .slice none 0 0, .slice none 0 0] 25)) (w.heap.size + 2) (.int .i64 0) (.slice none 0 0) (.slice none 0 0) := by
    have h := H3c.new ((w.alloc (.cells #[.int .i64 V, .slice pc N cc, .slice pk M ck] 25)).alloc (.cells #[.int .i64 0, .slice none 0 0, .slice none 0 0] 25)) (.int .i64 0) (.slice none 0 0) (.slice none 0 0) 25
    rw [show ((w.alloc (.cells #[.int .i64 V, .slice pc N cc, .slice pk M ck] 25)).alloc (.cells #[.int .i64 0, .slice none 0 0, .slice none 0 0] 25)).heap.size = w.heap.size + 2 from by simp] at h
    exact h
  have kw : Kp w (((w.alloc (.cells #[.int .i64 V, .slice pc N cc, .slice pk M ck] 25)).alloc (.cells #[.int .i64 0, .slice none 0 0, .slice none 0 0] 25)).alloc (.cells #[.int .i64 0, .slice none 0 0, .slice none 0 0] 25)) := (((Kp.refl w).alloc _).alloc _).alloc _
  have hsw : w.heap.size + 2 < (((w.alloc (.cells #[.int .i64 V, .slice pc N cc, .slice pk M ck] 25)).alloc (.cells #[.int .i64 0, .slice none 0 0, .slice none 0 0] 25)).alloc (.cells #[.int .i64 0, .slice none 0 0, .slice none 0 0] 25)).heap.size := by simp
  have HX : Hid (AG ULV w pc ps ∧ AI w pk L ∧ N = ps.length ∧ M = L.length ∧ N ≤ 256 ∧ 1 ≤ M ∧ cN L ≤ 256 ∧ ∀ i, i < L.length → lnAt V ps.length L i = 0) := ⟨hx, hy, hN, hM, by omega, by omega, hc, hgd.2.2.2⟩
  have hM9 : M ≤ 1024 := by omega
  clear hR hx hy hw lx ly hc hgd hN hM hZ
  go_enter Try.func17, Try.ntmps17
  go_upto_region 2 with fail
  generalize (((w.alloc (.cells #[.int .i64 V, .slice pc N cc, .slice pk M ck] 25)).alloc (.cells #[.int .i64 0, .slice none 0 0, .slice none 0 0] 25)).alloc (.cells #[.int .i64 0, .slice none 0 0, .slice none 0 0] 25)) = W at sx sr sb kw hsw ⊢
  obtain ⟨a0, a1, a2, a3, a4, a5⟩ := id sx
  obtain ⟨r0, r1, r2, r3, r4, r5⟩ := id sr
  obtain ⟨b0, b1, b2, b3, b4, b5⟩ := id sb
  go_upto_region 7 with (first | (go_at_call 8; refine (hch _ kw).mono ?_; rintro e1 w1 ⟨rfl, g1⟩; replace kw := kw.trans g1; replace sx := sx.keep g1; replace sr := sr.keep g1; replace sb := sb.keep g1; replace hsw := Nat.lt_of_lt_of_le hsw (Below.size g1); clear a0 a1 a2 a3 a4 a5 r0 r1 r2 r3 r4 r5 b0 b1 b2 b3 b4 b5; obtain ⟨a0, a1, a2, a3, a4, a5⟩ := id sx; obtain ⟨r0, r1, r2, r3, r4, r5⟩ := id sr; obtain ⟨b0, b1, b2, b3, b4, b5⟩ := id sb; clear g1) | (go_at_call 39; refine (htm _ kw).mono ?_; rintro e2 w2 ⟨rfl, g2⟩; replace kw := kw.trans g2; replace sx := sx.keep g2; replace sr := sr.keep g2; replace sb := sb.keep g2; replace hsw := Nat.lt_of_lt_of_le hsw (Below.size g2); clear a0 a1 a2 a3 a4 a5 r0 r1 r2 r3 r4 r5 b0 b1 b2 b3 b4 b5; obtain ⟨a0, a1, a2, a3, a4, a5⟩ := id sx; obtain ⟨r0, r1, r2, r3, r4, r5⟩ := id sr; obtain ⟨b0, b1, b2, b3, b4, b5⟩ := id sb; clear g2))
  clear hch htm hcT
  rename_i W0
  generalize w2 = W at *
  obtain ⟨S, hS⟩ : ∃ S, S = W.heap.size := ⟨_, rfl⟩
  rw [← hS] at hsw
  have HH : Hid (w.heap.size + 2 < S ∧ S = W.heap.size) := ⟨hsw, hS⟩
  have HI : Hid (H3c (W.setCell ⟨w.heap.size + 2, 0, none⟩ (.int .i64 V)) w.heap.size (.int .i64 V) (.slice pc N cc) (.slice pk M ck) ∧ H3c (W.setCell ⟨w.heap.size + 2, 0, none⟩ (.int .i64 V)) (w.heap.size + 1) (.int .i64 0) (.slice none 0 0) (.slice none 0 0) ∧ H3c (W.setCell ⟨w.heap.size + 2, 0, none⟩ (.int .i64 V)) (w.heap.size + 2) (.int .i64 V) (.slice none 0 0) (.slice none 0 0) ∧ Kp w (W.setCell ⟨w.heap.size + 2, 0, none⟩ (.int .i64 V))) := ⟨H3c.far1 sx _ (show w.heap.size + 2 ≠ w.heap.size by omega) _, H3c.far1 sr _ (show w.heap.size + 2 ≠ w.heap.size + 1 by omega) _, H3c.set0 sb _, kw.setCell (show w.heap.size ≤ w.heap.size + 2 by omega) _⟩
  clear sx sr sb kw hsw hS
  go_wp2
  clear a0 a1 a2 a3 a4 a5 r0 r1 r2 r3 r4 r5 b0 b1 b2 b3 b4 b5
  go_loopw [7, 8] (fun s7 s8 wr => ∃ (i k : Nat) (pa : Option Addr) (ca : Nat) (pb : Option Addr) (cb : Nat), s7 = .int .i64 i ∧ i ≤ M ∧ k = cN (L.take i) ∧ H3c wr w.heap.size (.int .i64 V) (.slice pc N cc) (.slice pk M ck) ∧ H3c wr (w.heap.size + 1) (.int .i64 0) (.slice none 0 0) (.slice none 0 0) ∧ H3c wr (w.heap.size + 2) (.int .i64 V) (.slice pa k ca) (.slice pb i cb) ∧ OG ULV 66 wr S (.slice pa k ca) (nCs ps (L.take i)) ∧ OI 61 wr S (.slice pb i cb) (nLs 0 (L.take i)) ∧ (∀ g, (Value.slice pb i cb).ownBlock = some g → (Value.slice pa k ca).ownBlock ≠ some g) ∧ Kp w wr ∧ S ≤ wr.heap.size) (fun s7 _ _ => M - (intOf s7).toNat)
  case atStart => exact ⟨0, 0, none, 0, none, 0, rfl, Nat.zero_le _, rfl, HI.out.1, HI.out.2.1, HI.out.2.2.1, OG.nil _ _ _ _, OI.nil _ _ _, (fun g hg => by cases hg), HI.out.2.2.2, by simp; rw [HH.out.2]; exact Nat.le_refl _⟩
  case round =>
    obtain ⟨i, k, pa, ca, pb, cb, rfl, hi, hk, sx, sr, sb, og, oi, dj, kp, hS⟩ := hrel
    clear HI
    obtain ⟨hx, hy, hN, hM, hN2, hM2, hc2, hln⟩ := HX.out
    have hk2 := cN_take L i
    by_cases ci : i < M
    · have HJ : Hid (i < M) := ci
      obtain ⟨b, off, rfl, hc5⟩ := hy.at (k := i) (by omega)
      obtain ⟨e0, e1, e2, e3, e4⟩ := hc5 i (by omega)
      have hyes := step_yes ps L i (by omega)
      have hno := step_no ps L i (by omega)
      have hgc := good_const (hln i (by omega))
      have hlt2 := cN_take_lt L i (by omega)
      have hlen : (nLs 0 (L.take i)).length = i := by rw [nLs_len, List.length_take]; omega
      have hlen2 : (nLs 0 (L.take (i + 1))).length = i + 1 := by rw [nLs_len, List.length_take]; omega
      obtain ⟨X, hX⟩ : ∃ X, X = L.getD i D5 := ⟨_, rfl⟩
      rw [← hX] at e0 e1 e2 e3 e4 hyes hno hgc hlt2
      obtain ⟨x0, x1, x2, x3, x4⟩ := X
      simp only at e0 e1 e2 e3 e4 hyes hno hgc hlt2
      replace e0 := kkeep kp e0
      replace e1 := kkeep kp e1
      replace e2 := kkeep kp e2
      replace e3 := kkeep kp e3
      replace e4 := kkeep kp e4
      have kA : Kp wr (wr.alloc (.cells #[.int .i64 x0, .int .i64 x1, .int .i64 x2, .int .i64 x3, .int .i64 x4] 61)) := (Kp.refl wr).alloc _
      have hSA : S ≤ (wr.alloc (.cells #[.int .i64 x0, .int .i64 x1, .int .i64 x2, .int .i64 x3, .int .i64 x4] 61)).heap.size := by simp; omega
      have s8 : H5c (wr.alloc (.cells #[.int .i64 x0, .int .i64 x1, .int .i64 x2, .int .i64 x3, .int .i64 x4] 61)) wr.heap.size (.int .i64 x0) (.int .i64 x1) (.int .i64 x2) (.int .i64 x3) (.int .i64 x4) := H5c.new wr _ _ _ _ _ 61
      obtain ⟨a0, a1, a2, a3, a4, a5⟩ := id sx
      by_cases c1 : x0 = 1
      · subst c1
        obtain ⟨t1, t2, t3, t4⟩ := hyes rfl
        obtain ⟨u1, u2⟩ := hgc rfl
        have u3 := hlt2 rfl
        obtain ⟨m, rfl⟩ := Int.eq_ofNat_of_zero_le u1
        rw [Int.toNat_natCast] at t2
        obtain ⟨b2, off2, rfl, hc9⟩ := hx.at (k := m) (by omega)
        obtain ⟨s3, s4⟩ := hc9 m (by omega)
        obtain ⟨Y, hY⟩ : ∃ Y, Y = ps.getD m (0, 0) := ⟨_, rfl⟩
        rw [← hY] at s3 s4 t2
        obtain ⟨Y1, Y2⟩ := Y
        simp only at s3 s4
        have hb2 := cell_lt s3
        have hh := HH.out
        have m1 : (m : Int) < (N : Int) := by omega
        have s1 : (wr.alloc (.cells #[.int .i64 1, .int .i64 x1, .int .i64 x2, .int .i64 x3, .int .i64 (m : Int)] 61)).cell? ⟨w.heap.size, 1, none⟩ = some (.slice (some ⟨b2, off2, none⟩) N cc) := kkeep kA a1
        have s2 : (wr.alloc (.cells #[.int .i64 1, .int .i64 x1, .int .i64 x2, .int .i64 x3, .int .i64 (m : Int)] 61)).cell? ⟨wr.heap.size, 4, none⟩ = some (.int .i64 (m : Int)) := by simp [go_sem]
        have s3' : (wr.alloc (.cells #[.int .i64 1, .int .i64 x1, .int .i64 x2, .int .i64 x3, .int .i64 (m : Int)] 61)).cell? ⟨b2, off2 + m * 2, none⟩ = some (.int .u64 (Y1 : Int)) := kkeep (kp.trans kA) s3
        have s4' : (wr.alloc (.cells #[.int .i64 1, .int .i64 x1, .int .i64 x2, .int .i64 x3, .int .i64 (m : Int)] 61)).cell? ⟨b2, off2 + m * 2 + 1, none⟩ = some (.int .u64 (Y2 : Int)) := kkeep (kp.trans kA) s4
        have sb1 := sb.keep kA
        have sx1 := sx.keep kA
        have sr1 := sr.keep kA
        have og1 := og.kp kA
        have oi1 := oi.kp kA
        have s81 := s8
        have dj1 := dj
        have kp1 : Kp w (wr.alloc (.cells #[.int .i64 1, .int .i64 x1, .int .i64 x2, .int .i64 x3, .int .i64 (m : Int)] 61)) := kp.trans kA
        have hS1 : S ≤ (wr.alloc (.cells #[.int .i64 1, .int .i64 x1, .int .i64 x2, .int .i64 x3, .int .i64 (m : Int)] 61)).heap.size := hSA
        have hsz1 : wr.heap.size < (wr.alloc (.cells #[.int .i64 1, .int .i64 x1, .int .i64 x2, .int .i64 x3, .int .i64 (m : Int)] 61)).heap.size := by simp
        have hl9 : (nCs ps (L.take i)).length = k := by rw [nCs_len]; exact hk.symm
        have hpa := og_lt og
        have hpb := oi_lt oi
        have HT : Hid (k + 1 = cN (L.take (i + 1)) ∧ nCs ps (L.take i) ++ [(Y1, Y2)] = nCs ps (L.take (i + 1)) ∧ nLs 0 (L.take (i + 1)) = nLs 0 (L.take i) ++ [(1, x1, x2, x3, (k : Int))] ∧ (nLs 0 (L.take (i + 1))).length = i + 1 ∧ (nLs 0 (L.take i)).length = i) := ⟨by rw [t1, hk], t2.symm, by rw [t3, ← hk]; rfl, hlen2, hlen⟩
        have HR : Hid (k + 1 = cN (L.take (i + 1)) ∧ nCs ps (L.take (i + 1)) = nCs ps (L.take i) ++ [(Y1, Y2)] ∧ (nCs ps (L.take i) ++ [(Y1, Y2)]).length = k + 1 ∧ (nCs ps (L.take i)).length + 1 ≤ 1048576 ∧ (∀ g, (Value.slice pa k ca).ownBlock = some g → S ≤ g ∧ g < wr.heap.size) ∧ (∀ g, (Value.slice pb i cb).ownBlock = some g → g ≠ wr.heap.size) ∧ S ≤ wr.heap.size) := ⟨by rw [t1, hk], t2, by rw [List.length_append, hl9]; rfl, by omega, fun g hg => ⟨og_block og g hg, hpa g hg⟩, fun g hg => by have := hpb g hg; omega, hS⟩
        have hk9 : k ≤ 256 := by omega
        have HB2 : Hid (b2 < w.heap.size) := hb2
        clear hyes hno hgc hlt2 hX hc5 hx hy hN hM hN2 hM2 hc2 hln hk hk2 sx sr sb og oi dj kp hS hlen hlen2 t1 t2 t3 t4 kA hSA HX a0 a1 a3 a4 a5 s3 s4 hc9 hY u1 u2 u3 hb2 hh hpa hpb hl9 s8
        go_upto_region 13 with fail
        generalize (wr.alloc (.cells #[.int .i64 1, .int .i64 x1, .int .i64 x2, .int .i64 x3, .int .i64 (m : Int)] 61)) = W11 at s1 s2 s3' s4' sb1 sx1 sr1 og1 oi1 s81 kp1 hS1 hsz1 ⊢
        clear e0 e1 e2 e3 e4 a2
        have kD : Kp W11 (W11.alloc (.cells #[.int .u64 (Y1 : Int), .int .u64 (Y2 : Int)] 66)) := (Kp.refl _).alloc _
        obtain ⟨b0, b1, b2', b3, b4, b5⟩ := id sb1
        have b1' := kkeep kD b1
        have hh := HH.out
        have hb2 := HB2.out
        obtain ⟨r1, r2, r3, r4, r5, r6, r7⟩ := HR.out
        have n1 : (Value.slice pa k ca).ownBlock ≠ some w.heap.size := fun h => by have := r5 _ h; omega
        have n2 : (Value.slice pa k ca).ownBlock ≠ some wr.heap.size := fun h => by have := r5 _ h; omega
        have n3 : (Value.slice pa k ca).ownBlock ≠ some b2 := fun h => by have := r5 _ h; omega
        have p1 : w.heap.size + 2 ≠ w.heap.size := by omega
        have p2 : w.heap.size + 2 ≠ wr.heap.size := by omega
        have p3 : w.heap.size + 2 ≠ b2 := by omega
        have p4 : w.heap.size + 2 ≠ w.heap.size + 1 := by omega
        have p5 : w.heap.size ≤ w.heap.size + 2 := by omega
        have HP : Hid (w.heap.size < S ∧ w.heap.size + 1 < S ∧ w.heap.size + 2 < S) := ⟨by omega, by omega, by omega⟩
        clear hh r1 r2 r5 r6 r7 hb2
        have m2 : (0 : Int) ≤ (m : Int) := by omega
        refine wp_region_noPanic ?_
        refine wp_region_held_drew (S := (fun w' => w'.cell? ⟨w.heap.size, 1, none⟩ = some (.slice (some ⟨b2, off2, none⟩) N cc) ∧ w'.cell? ⟨wr.heap.size, 4, none⟩ = some (.int .i64 (m : Int)) ∧ w'.cell? ⟨b2, off2 + m * 2, none⟩ = some (.int .u64 (Y1 : Int)) ∧ w'.cell? ⟨b2, off2 + m * 2 + 1, none⟩ = some (.int .u64 (Y2 : Int)))) (by kernel_rfl) ?_ (fun hHeld => ?_)
        · (refine ⟨(kkeep (W := W11) ?_ s1), (kkeep (W := W11) ?_ s2), (kkeep (W := W11) ?_ s3'), (kkeep (W := W11) ?_ s4')⟩ <;> ((repeat (first | with_reducible exact Kp.refl _ | with_reducible apply Kp.drew | with_reducible apply Kp.alloc)); done))
        refine wpAnyH_take (i := 0) (v := .pointer (some ⟨w.heap.size + 2, 1, none⟩)) rfl (by kernel_rfl) (by kernel_rfl) (by kernel_rfl) (fun _ _ _ h => h) (Or.inl ⟨by rfl, ?_⟩) (by assumption) ?_
        · intro w hSw
          (try dsimp only at hSw)
          go_simp
        try simp only [Act.put, List.setIfInBounds_toArray, List.set_cons_zero, List.set_cons_succ]
        refine wpAnyH_take (i := 2) (v := .pointer (some ⟨w.heap.size, 1, none⟩)) rfl (by kernel_rfl) (by kernel_rfl) (by kernel_rfl) (fun _ _ _ h => h) (Or.inl ⟨by rfl, ?_⟩) (by assumption) ?_
        · intro w hSw
          (try dsimp only at hSw)
          go_simp
        try simp only [Act.put, List.setIfInBounds_toArray, List.set_cons_zero, List.set_cons_succ]
        refine wpAnyH_take (i := 3) (v := .slice (some ⟨b2, off2, none⟩) N cc) rfl (by kernel_rfl) (by kernel_rfl) (by kernel_rfl) (fun _ _ _ h => h) (Or.inl ⟨by rfl, ?_⟩) (by assumption) ?_
        · intro w hSw
          (try dsimp only at hSw)
          go_simp
        try simp only [Act.put, List.setIfInBounds_toArray, List.set_cons_zero, List.set_cons_succ]
        refine wpAnyH_take (i := 4) (v := .pointer (some ⟨wr.heap.size, 4, none⟩)) rfl (by kernel_rfl) (by kernel_rfl) (by kernel_rfl) (fun _ _ _ h => h) (Or.inl ⟨by rfl, ?_⟩) (by assumption) ?_
        · intro w hSw
          (try dsimp only at hSw)
          go_simp
        try simp only [Act.put, List.setIfInBounds_toArray, List.set_cons_zero, List.set_cons_succ]
        refine wpAnyH_take (i := 5) (v := .int .i64 (m : Int)) rfl (by kernel_rfl) (by kernel_rfl) (by kernel_rfl) (fun _ _ _ h => h) (Or.inl ⟨by rfl, ?_⟩) (by assumption) ?_
        · intro w hSw
          (try dsimp only at hSw)
          go_simp
        try simp only [Act.put, List.setIfInBounds_toArray, List.set_cons_zero, List.set_cons_succ]
        refine wpAnyH_take (i := 6) (v := .pointer (some ⟨b2, off2 + m * 2, none⟩)) rfl (by kernel_rfl) (by kernel_rfl) (by kernel_rfl) (fun _ _ _ h => h) (Or.inl ⟨by rfl, ?_⟩) (by assumption) ?_
        · intro w hSw
          (try dsimp only at hSw)
          go_simp
        try simp only [Act.put, List.setIfInBounds_toArray, List.set_cons_zero, List.set_cons_succ]
        refine wpAnyH_take (i := 7) (v := .agg #[.int .u64 (Y1 : Int), .int .u64 (Y2 : Int)]) rfl (by kernel_rfl) (by kernel_rfl) (by kernel_rfl) (fun _ _ _ h => h) (Or.inl ⟨by rfl, ?_⟩) (by assumption) ?_
        · intro w hSw
          (try dsimp only at hSw)
          go_simp
        try simp only [Act.put, List.setIfInBounds_toArray, List.set_cons_zero, List.set_cons_succ]
        refine wpAnyH_ready (rs := [1, 8]) (by kernel_rfl) (by simp) ?_
        refine AllReadyH.cons rfl (fun K hK => ?_) (AllReadyH.cons rfl (fun K hK => ?_) AllReadyH.nil)
        · go_simp
          refine hK.out _ _ ?_ (fun hHeld => ?_)
          · (refine ⟨(kkeep (W := W11) ?_ s1), (kkeep (W := W11) ?_ s2), (kkeep (W := W11) ?_ s3'), (kkeep (W := W11) ?_ s4')⟩ <;> ((repeat (first | with_reducible exact Kp.refl _ | with_reducible apply Kp.drew | with_reducible apply Kp.alloc)); done))
          clear hK K
          try simp only [Act.put, List.setIfInBounds_toArray, List.set_cons_zero, List.set_cons_succ]
          refine wpAnyH_ready (rs := [8]) (by kernel_rfl) (by simp) ?_
          refine AllReadyH.cons rfl (fun K hK => ?_) AllReadyH.nil
          go_simp
          refine hK.out _ _ ?_ (fun hHeld => ?_)
          · (refine ⟨(kkeep (W := W11) ?_ s1), (kkeep (W := W11) ?_ s2), (kkeep (W := W11) ?_ s3'), (kkeep (W := W11) ?_ s4')⟩ <;> ((repeat (first | with_reducible exact Kp.refl _ | with_reducible apply Kp.drew | with_reducible apply Kp.alloc)); done))
          clear hK K
          try simp only [Act.put, List.setIfInBounds_toArray, List.set_cons_zero, List.set_cons_succ]
          refine wpAnyH_ready (rs := [9]) (by kernel_rfl) (by simp) ?_
          refine AllReadyH.cons rfl (fun K hK => ?_) AllReadyH.nil
          refine if_app2 (by rfl) _ _ 22 rfl _ _ rfl rfl (appU_ W11 _ S hS1 (by (repeat (first | exact Kp.refl _ | apply Kp.drew | apply Kp.alloc)); done) (.slice pa k ca) (nCs ps (L.take i)) W11.heap.size Y1 Y2 1 og1 (by simp [go_sem]) (by simp [go_sem]) r4) ?_
          rintro v' w2 ⟨hO, hbl, hsz2, hfar, hfro, hoth, hat⟩
          obtain ⟨pa2, ca2, rfl⟩ := OG.arrN hO r3
          have t1 := hfar _ _ _ s1 n1
          have t2 := hfar _ _ _ s2 n2
          have t3 := hfar _ _ _ s3' n3
          have t4 := hfar _ _ _ s4' n3
          have sb2 := sb1.bel hbl HP.out.2.2
          obtain ⟨c0, c1, c2, c3, c4, c5⟩ := id sb2
          refine hK.out _ _ ?_ (fun hHeld => ?_)
          · exact ⟨t1, t2, t3, t4⟩
          clear hK K
          try simp only [Act.put, List.setIfInBounds_toArray, List.set_cons_zero, List.set_cons_succ]
          refine wpAnyH_take (i := 10) (v := .pointer (some ⟨w.heap.size + 2, 1, none⟩)) rfl (by kernel_rfl) (by kernel_rfl) (by kernel_rfl) (fun _ _ _ h => h) (Or.inl ⟨by rfl, ?_⟩) (by assumption) ?_
          · intro w hSw
            (try dsimp only at hSw)
            go_simp
          try simp only [Act.put, List.setIfInBounds_toArray, List.set_cons_zero, List.set_cons_succ]
          refine wpAnyH_ready (rs := [11]) (by kernel_rfl) (by simp) ?_
          refine AllReadyH.cons rfl (fun K hK => ?_) AllReadyH.nil
          go_simp
          refine hK.out _ _ ?_ (fun hHeld => ?_)
          · exact ⟨(World.cell?_setCell_far _ _ _ _ p1).trans t1, (World.cell?_setCell_far _ _ _ _ p2).trans t2, (World.cell?_setCell_far _ _ _ _ p3).trans t3, (World.cell?_setCell_far _ _ _ _ p3).trans t4⟩
          clear hK K
          try simp only [Act.put, List.setIfInBounds_toArray, List.set_cons_zero, List.set_cons_succ]
          refine wpAnyH_done (by kernel_rfl) ?_ _
          refine NoPanic.normal ?_
          have hp := HP.out
          have rr := HR.out
          obtain ⟨z0, z1, z2, z3, z4, f0, f1, f2, f3, f4⟩ := s81
          have s82 : H5c w2 wr.heap.size (.int .i64 1) (.int .i64 x1) (.int .i64 x2) (.int .i64 x3) (.int .i64 (m : Int)) := ⟨hfar _ _ _ z0 n2, hfar _ _ _ z1 n2, hfar _ _ _ z2 n2, hfar _ _ _ z3 n2, hfar _ _ _ z4 n2, (hfro _ _ hsz1 n2).trans f0, (hfro _ _ hsz1 n2).trans f1, (hfro _ _ hsz1 n2).trans f2, (hfro _ _ hsz1 n2).trans f3, (hfro _ _ hsz1 n2).trans f4⟩
          have s83 := H5c.far1 s82 ⟨w.heap.size + 2, 1, none⟩ p2 (.slice pa2 (k + 1) ca2)
          have sbT : H3c (w2.setCell ⟨w.heap.size + 2, 1, none⟩ (.slice pa2 (k + 1) ca2)) (w.heap.size + 2) (.int .i64 V) (.slice pa2 (k + 1) ca2) (.slice pb i cb) := H3c.set1 sb2 _
          obtain ⟨z0', z1', z2', z3', z4', f0', f1', f2', f3', f4'⟩ := id s83
          obtain ⟨g0, g1, g2, g3, g4, g5⟩ := id sbT
          have oi2 := hoth _ _ _ _ oi1 dj1
          have dj2 : (∀ g, (Value.slice pb i cb).ownBlock = some g → (Value.slice pa2 (k + 1) ca2).ownBlock ≠ some g) := fun g hg h9 => by
            rcases hat with h | ⟨g', h, hge⟩
            · rw [h] at h9
              exact dj1 g hg h9
            · rw [h] at h9
              have h8 := oi_lt oi1 g hg
              simp at h9
              omega
          have HQ : Hid (H3c (w2.setCell ⟨w.heap.size + 2, 1, none⟩ (.slice pa2 (k + 1) ca2)) w.heap.size (.int .i64 V) (.slice (some ⟨b2, off2, none⟩) N cc) (.slice (some ⟨b, off, none⟩) M ck) ∧ H3c (w2.setCell ⟨w.heap.size + 2, 1, none⟩ (.slice pa2 (k + 1) ca2)) (w.heap.size + 1) (.int .i64 0) (.slice none 0 0) (.slice none 0 0) ∧ OG ULV 66 (w2.setCell ⟨w.heap.size + 2, 1, none⟩ (.slice pa2 (k + 1) ca2)) S (.slice pa2 (k + 1) ca2) (nCs ps (L.take i) ++ [(Y1, Y2)]) ∧ OI 61 (w2.setCell ⟨w.heap.size + 2, 1, none⟩ (.slice pa2 (k + 1) ca2)) S (.slice pb i cb) (nLs 0 (L.take i)) ∧ (∀ g, (Value.slice pb i cb).ownBlock = some g → (Value.slice pa2 (k + 1) ca2).ownBlock ≠ some g) ∧ Kp w (w2.setCell ⟨w.heap.size + 2, 1, none⟩ (.slice pa2 (k + 1) ca2)) ∧ S ≤ w2.heap.size ∧ wr.heap.size < w2.heap.size ∧ S ≤ wr.heap.size ∧ (∀ g, (Value.slice pa2 (k + 1) ca2).ownBlock = some g → g ≠ wr.heap.size) ∧ (∀ g, (Value.slice pb i cb).ownBlock = some g → g ≠ wr.heap.size) ∧ H5c (w2.setCell ⟨w.heap.size + 2, 1, none⟩ (.slice pa2 (k + 1) ca2)) wr.heap.size (.int .i64 1) (.int .i64 x1) (.int .i64 x2) (.int .i64 x3) (.int .i64 (m : Int)) ∧ H3c (w2.setCell ⟨w.heap.size + 2, 1, none⟩ (.slice pa2 (k + 1) ca2)) (w.heap.size + 2) (.int .i64 V) (.slice pa2 (k + 1) ca2) (.slice pb i cb)) := ⟨H3c.far1 (sx1.bel hbl hp.1) _ p1 _, H3c.far1 (sr1.bel hbl hp.2.1) _ p4 _, OG.setNe hO (fun g hg => by have := og_block hO g hg; omega) _, OI.setNe oi2 (fun g hg => by have := oi_block oi2 g hg; omega) _, dj2, (Kp.below kp1 hbl (by omega)).setCell p5 _, by omega, by omega, rr.2.2.2.2.2.2, fun g hg => by
            rcases hat with h | ⟨g', h, hge⟩
            · rw [h] at hg; have := rr.2.2.2.2.1 g hg; omega
            · rw [h] at hg; simp at hg; omega, rr.2.2.2.2.2.1, s83, sbT⟩
          clear hO hbl hfar hfro hoth hat t1 t2 t3 t4 s1 s2 s3' s4' sb1 sx1 sr1 og1 oi1 dj1 kp1 hS1 hsz1 kD n1 n2 n3 p1 p2 p3 p4 p5 rr hp HP r3 r4 hsz2 s82 s83 sbT oi2 dj2 sb2 c0 c1 c2 c3 c4 c5 z0 z1 z2 z3 z4 f0 f1 f2 f3 f4
          go_upto_region 15 with fail
          obtain ⟨q1, q2, q3, q4, q5, q6, q7, q8, q9, q10, q11, q12, q13⟩ := HQ.out
          have hh := HH.out
          have sx := H3c.far1 q1 ⟨wr.heap.size, 4, none⟩ (show wr.heap.size ≠ w.heap.size by omega) (.int .i64 (k : Int))
          have sr := H3c.far1 q2 ⟨wr.heap.size, 4, none⟩ (show wr.heap.size ≠ w.heap.size + 1 by omega) (.int .i64 (k : Int))
          have sb := H3c.far1 q13 ⟨wr.heap.size, 4, none⟩ (show wr.heap.size ≠ w.heap.size + 2 by omega) (.int .i64 (k : Int))
          have s8 := H5c.set4 q12 (.int .i64 (k : Int))
          have og := OG.setNe q3 (b := wr.heap.size) (o := 4) q10 (.int .i64 (k : Int))
          have oi := OI.setNe q4 (b := wr.heap.size) (o := 4) q11 (.int .i64 (k : Int))
          have dj := q5
          have kp := Kp.setCell q6 (p := ⟨wr.heap.size, 4, none⟩) (show w.heap.size ≤ wr.heap.size by omega) (.int .i64 (k : Int))
          have hS : S ≤ ((w2.setCell ⟨w.heap.size + 2, 1, none⟩ (.slice pa2 (k + 1) ca2)).setCell ⟨wr.heap.size, 4, none⟩ (.int .i64 (k : Int))).heap.size := by simpa using q7
          clear q1 q2 q3 q4 q5 q6 q7 q8 q9 q10 q11 q12 q13 hh HQ
          generalize ((w2.setCell ⟨w.heap.size + 2, 1, none⟩ (.slice pa2 (k + 1) ca2)).setCell ⟨wr.heap.size, 4, none⟩ (.int .i64 (k : Int))) = WT at sx sr sb og oi s8 kp hS ⊢
          clear z0' z1' z2' z3' z4' f0' f1' f2' f3' f4' g0 g1 g2 g3 g4 g5 b0 b1 b1' b2' b3 b4 b5 HR HB2
          generalize wr.heap.size = B8 at s8 ⊢
          obtain ⟨l0, l1, l2, l3, l4, l5⟩ := id sb
          obtain ⟨y0, y1, y2, y3, y4, -⟩ := id s8
          have oi : WT.ownsRow S 61 5 (.slice pb i cb) i (flat5 (nLs 0 (L.take i))) := by
            have h := oi
            unfold OI at h
            rw [HT.out.2.2.2.2] at h
            exact h
          have kB : Kp WT (WT.alloc (.cells #[.int .i64 1, .int .i64 x1, .int .i64 x2, .int .i64 x3, .int .i64 (k : Int)] 61)) := (Kp.refl _).alloc _
          go_wp2_with (first | (at_builtin; refine wpList_append_own_at _ rfl _ _ 23 rfl S 61 i0 (.agg #[.int .i64 0, .int .i64 0, .int .i64 0, .int .i64 0, .int .i64 0]) 5 40 Try.underlying23 hi0 hi1 hi2 hi3 rfl (by decide) _ _ _ rfl (oi.alloc _) ⟨WT.heap.size, 0, none⟩ 1 1 [.int .i64 1, .int .i64 x1, .int .i64 x2, .int .i64 x3, .int .i64 (k : Int)] rfl rfl ?c1 ?c2 ?c3 ?c4 ?c5 ?_))
          case c1 =>
            intro j' u hj'
            match j', hj' with
            | 0, hj' => simp at hj'; subst hj'; simp [Addr.add]
            | 1, hj' => simp at hj'; subst hj'; simp [Addr.add]
            | 2, hj' => simp at hj'; subst hj'; simp [Addr.add]
            | 3, hj' => simp at hj'; subst hj'; simp [Addr.add]
            | 4, hj' => simp at hj'; subst hj'; simp [Addr.add]
          case c2 => intro u hu; simp at hu; rcases hu with rfl | rfl | rfl | rfl | rfl <;> rfl
          case c3 => unfold maxLen; omega
          case c4 => omega
          case c5 => simp; omega
          intro v' w2 hown2 hgrow _ hat
          obtain ⟨ht1, ht2, ht3, ht4, ht5⟩ := HT.out
          have hO : OI 61 w2 S v' (nLs 0 (L.take (i + 1))) := by
            rw [ht3]
            refine OI.push ?_
            rw [ht5]
            exact hown2
          obtain ⟨pb2, cb2, rfl⟩ := OI.arrN hO ht4
          have hob : ∀ k, (Value.slice pb i cb).ownBlock = some k → S ≤ k ∧ k < WT.heap.size := fun k hk => World.ownsRow.lt oi k hk
          have bl : Below S WT w2 := Below.grown (Below.alloc (Below.refl S WT) hS _) hgrow (by simp; omega) (fun k hk => (hob k hk).1)
          have hh := HH.out
          have sx2 := sx.bel bl (by omega)
          have sr2 := sr.bel bl (by omega)
          have sb2 := sb.bel bl (by omega)
          have og2 : OG ULV 66 w2 S (.slice pa2 (k + 1) ca2) (nCs ps (L.take (i + 1))) := by
            rw [← ht2]
            refine World.ownsRow.kept (OG.kp og kB) hgrow ?_
            cases e : (Value.slice pa2 (k + 1) ca2).ownBlock with
            | none => exact Or.inl rfl
            | some g => exact Or.inr (fun h9 => dj g h9.symm e)
          have dj2 : (∀ g, (Value.slice pb2 (i + 1) cb2).ownBlock = some g → (Value.slice pa2 (k + 1) ca2).ownBlock ≠ some g) := fun g hg h9 => by
            rcases hat with h | h
            · rw [h] at hg
              exact dj g hg h9
            · rw [h] at hg
              have h8 := og_lt og g h9
              simp at hg
              omega
          have kp2 : Kp w w2 := Kp.below kp bl (by omega)
          have hS2 : S ≤ w2.heap.size := by have := Below.size (Kp.refl w2); have h7 := hgrow.size; simp at h7; omega
          have HZ : Hid ((k + 1) = cN (L.take (i + 1)) ∧ H3c (w2.setCell ⟨w.heap.size + 2, 2, none⟩ (.slice pb2 (i + 1) cb2)) w.heap.size (.int .i64 V) (.slice (some ⟨b2, off2, none⟩) N cc) (.slice (some ⟨b, off, none⟩) M ck) ∧ H3c (w2.setCell ⟨w.heap.size + 2, 2, none⟩ (.slice pb2 (i + 1) cb2)) (w.heap.size + 1) (.int .i64 0) (.slice none 0 0) (.slice none 0 0) ∧ H3c (w2.setCell ⟨w.heap.size + 2, 2, none⟩ (.slice pb2 (i + 1) cb2)) (w.heap.size + 2) (.int .i64 V) (.slice pa2 (k + 1) ca2) (.slice pb2 (i + 1) cb2) ∧ OG ULV 66 (w2.setCell ⟨w.heap.size + 2, 2, none⟩ (.slice pb2 (i + 1) cb2)) S (.slice pa2 (k + 1) ca2) (nCs ps (L.take (i + 1))) ∧ OI 61 (w2.setCell ⟨w.heap.size + 2, 2, none⟩ (.slice pb2 (i + 1) cb2)) S (.slice pb2 (i + 1) cb2) (nLs 0 (L.take (i + 1))) ∧ (∀ g, (Value.slice pb2 (i + 1) cb2).ownBlock = some g → (Value.slice pa2 (k + 1) ca2).ownBlock ≠ some g) ∧ Kp w (w2.setCell ⟨w.heap.size + 2, 2, none⟩ (.slice pb2 (i + 1) cb2)) ∧ S ≤ (w2.setCell ⟨w.heap.size + 2, 2, none⟩ (.slice pb2 (i + 1) cb2)).heap.size) := ⟨ht1, H3c.far1 sx2 _ (show w.heap.size + 2 ≠ w.heap.size by omega) _, H3c.far1 sr2 _ (show w.heap.size + 2 ≠ w.heap.size + 1 by omega) _, H3c.set2 sb2 _, OG.setNe og2 (fun g hg => by have := og_block og2 g hg; omega) _, OI.setNe hO (fun g hg => by have := oi_block hO g hg; omega) _, dj2, kp2.setCell (show w.heap.size ≤ w.heap.size + 2 by omega) _, by simpa using hS2⟩
          obtain ⟨c0, c1, c2, c3, c4, c5⟩ := id sb2
          clear hO hown2 hgrow hat bl sx2 sr2 og2 dj2 kp2 hS2 sx sr sb og oi dj kp hS l0 l1 l2 l3 l4 l5 y0 y1 y2 y3 y4 s8 kB hob hh ht1 ht2 ht3 ht4 ht5 HT sb2
          go_wp2
          have hJ : i < M := HJ.out
          exact ⟨⟨i + 1, (k + 1), pa2, ca2, pb2, cb2, by go_num, hJ, HZ.out⟩, by simp [intOf]; omega⟩
        · go_simp
          refine hK.out _ _ ?_ (fun hHeld => ?_)
          · (refine ⟨(kkeep (W := W11) ?_ s1), (kkeep (W := W11) ?_ s2), (kkeep (W := W11) ?_ s3'), (kkeep (W := W11) ?_ s4')⟩ <;> ((repeat (first | with_reducible exact Kp.refl _ | with_reducible apply Kp.drew | with_reducible apply Kp.alloc)); done))
          clear hK K
          try simp only [Act.put, List.setIfInBounds_toArray, List.set_cons_zero, List.set_cons_succ]
          refine wpAnyH_ready (rs := [1]) (by kernel_rfl) (by simp) ?_
          refine AllReadyH.cons rfl (fun K hK => ?_) AllReadyH.nil
          go_simp
          refine hK.out _ _ ?_ (fun hHeld => ?_)
          · (refine ⟨(kkeep (W := W11) ?_ s1), (kkeep (W := W11) ?_ s2), (kkeep (W := W11) ?_ s3'), (kkeep (W := W11) ?_ s4')⟩ <;> ((repeat (first | with_reducible exact Kp.refl _ | with_reducible apply Kp.drew | with_reducible apply Kp.alloc)); done))
          clear hK K
          try simp only [Act.put, List.setIfInBounds_toArray, List.set_cons_zero, List.set_cons_succ]
          refine wpAnyH_ready (rs := [9]) (by kernel_rfl) (by simp) ?_
          refine AllReadyH.cons rfl (fun K hK => ?_) AllReadyH.nil
          refine if_app2 (by rfl) _ _ 22 rfl _ _ rfl rfl (appU_ W11 _ S hS1 (by (repeat (first | exact Kp.refl _ | apply Kp.drew | apply Kp.alloc)); done) (.slice pa k ca) (nCs ps (L.take i)) W11.heap.size Y1 Y2 1 og1 (by simp [go_sem]) (by simp [go_sem]) r4) ?_
          rintro v' w2 ⟨hO, hbl, hsz2, hfar, hfro, hoth, hat⟩
          obtain ⟨pa2, ca2, rfl⟩ := OG.arrN hO r3
          have t1 := hfar _ _ _ s1 n1
          have t2 := hfar _ _ _ s2 n2
          have t3 := hfar _ _ _ s3' n3
          have t4 := hfar _ _ _ s4' n3
          have sb2 := sb1.bel hbl HP.out.2.2
          obtain ⟨c0, c1, c2, c3, c4, c5⟩ := id sb2
          refine hK.out _ _ ?_ (fun hHeld => ?_)
          · exact ⟨t1, t2, t3, t4⟩
          clear hK K
          try simp only [Act.put, List.setIfInBounds_toArray, List.set_cons_zero, List.set_cons_succ]
          refine wpAnyH_take (i := 10) (v := .pointer (some ⟨w.heap.size + 2, 1, none⟩)) rfl (by kernel_rfl) (by kernel_rfl) (by kernel_rfl) (fun _ _ _ h => h) (Or.inl ⟨by rfl, ?_⟩) (by assumption) ?_
          · intro w hSw
            (try dsimp only at hSw)
            go_simp
          try simp only [Act.put, List.setIfInBounds_toArray, List.set_cons_zero, List.set_cons_succ]
          refine wpAnyH_ready (rs := [11]) (by kernel_rfl) (by simp) ?_
          refine AllReadyH.cons rfl (fun K hK => ?_) AllReadyH.nil
          go_simp
          refine hK.out _ _ ?_ (fun hHeld => ?_)
          · exact ⟨(World.cell?_setCell_far _ _ _ _ p1).trans t1, (World.cell?_setCell_far _ _ _ _ p2).trans t2, (World.cell?_setCell_far _ _ _ _ p3).trans t3, (World.cell?_setCell_far _ _ _ _ p3).trans t4⟩
          clear hK K
          try simp only [Act.put, List.setIfInBounds_toArray, List.set_cons_zero, List.set_cons_succ]
          refine wpAnyH_done (by kernel_rfl) ?_ _
          refine NoPanic.normal ?_
          have hp := HP.out
          have rr := HR.out
          obtain ⟨z0, z1, z2, z3, z4, f0, f1, f2, f3, f4⟩ := s81
          have s82 : H5c w2 wr.heap.size (.int .i64 1) (.int .i64 x1) (.int .i64 x2) (.int .i64 x3) (.int .i64 (m : Int)) := ⟨hfar _ _ _ z0 n2, hfar _ _ _ z1 n2, hfar _ _ _ z2 n2, hfar _ _ _ z3 n2, hfar _ _ _ z4 n2, (hfro _ _ hsz1 n2).trans f0, (hfro _ _ hsz1 n2).trans f1, (hfro _ _ hsz1 n2).trans f2, (hfro _ _ hsz1 n2).trans f3, (hfro _ _ hsz1 n2).trans f4⟩
          have s83 := H5c.far1 s82 ⟨w.heap.size + 2, 1, none⟩ p2 (.slice pa2 (k + 1) ca2)
          have sbT : H3c (w2.setCell ⟨w.heap.size + 2, 1, none⟩ (.slice pa2 (k + 1) ca2)) (w.heap.size + 2) (.int .i64 V) (.slice pa2 (k + 1) ca2) (.slice pb i cb) := H3c.set1 sb2 _
          obtain ⟨z0', z1', z2', z3', z4', f0', f1', f2', f3', f4'⟩ := id s83
          obtain ⟨g0, g1, g2, g3, g4, g5⟩ := id sbT
          have oi2 := hoth _ _ _ _ oi1 dj1
          have dj2 : (∀ g, (Value.slice pb i cb).ownBlock = some g → (Value.slice pa2 (k + 1) ca2).ownBlock ≠ some g) := fun g hg h9 => by
            rcases hat with h | ⟨g', h, hge⟩
            · rw [h] at h9
              exact dj1 g hg h9
            · rw [h] at h9
              have h8 := oi_lt oi1 g hg
              simp at h9
              omega
          have HQ : Hid (H3c (w2.setCell ⟨w.heap.size + 2, 1, none⟩ (.slice pa2 (k + 1) ca2)) w.heap.size (.int .i64 V) (.slice (some ⟨b2, off2, none⟩) N cc) (.slice (some ⟨b, off, none⟩) M ck) ∧ H3c (w2.setCell ⟨w.heap.size + 2, 1, none⟩ (.slice pa2 (k + 1) ca2)) (w.heap.size + 1) (.int .i64 0) (.slice none 0 0) (.slice none 0 0) ∧ OG ULV 66 (w2.setCell ⟨w.heap.size + 2, 1, none⟩ (.slice pa2 (k + 1) ca2)) S (.slice pa2 (k + 1) ca2) (nCs ps (L.take i) ++ [(Y1, Y2)]) ∧ OI 61 (w2.setCell ⟨w.heap.size + 2, 1, none⟩ (.slice pa2 (k + 1) ca2)) S (.slice pb i cb) (nLs 0 (L.take i)) ∧ (∀ g, (Value.slice pb i cb).ownBlock = some g → (Value.slice pa2 (k + 1) ca2).ownBlock ≠ some g) ∧ Kp w (w2.setCell ⟨w.heap.size + 2, 1, none⟩ (.slice pa2 (k + 1) ca2)) ∧ S ≤ w2.heap.size ∧ wr.heap.size < w2.heap.size ∧ S ≤ wr.heap.size ∧ (∀ g, (Value.slice pa2 (k + 1) ca2).ownBlock = some g → g ≠ wr.heap.size) ∧ (∀ g, (Value.slice pb i cb).ownBlock = some g → g ≠ wr.heap.size) ∧ H5c (w2.setCell ⟨w.heap.size + 2, 1, none⟩ (.slice pa2 (k + 1) ca2)) wr.heap.size (.int .i64 1) (.int .i64 x1) (.int .i64 x2) (.int .i64 x3) (.int .i64 (m : Int)) ∧ H3c (w2.setCell ⟨w.heap.size + 2, 1, none⟩ (.slice pa2 (k + 1) ca2)) (w.heap.size + 2) (.int .i64 V) (.slice pa2 (k + 1) ca2) (.slice pb i cb)) := ⟨H3c.far1 (sx1.bel hbl hp.1) _ p1 _, H3c.far1 (sr1.bel hbl hp.2.1) _ p4 _, OG.setNe hO (fun g hg => by have := og_block hO g hg; omega) _, OI.setNe oi2 (fun g hg => by have := oi_block oi2 g hg; omega) _, dj2, (Kp.below kp1 hbl (by omega)).setCell p5 _, by omega, by omega, rr.2.2.2.2.2.2, fun g hg => by
            rcases hat with h | ⟨g', h, hge⟩
            · rw [h] at hg; have := rr.2.2.2.2.1 g hg; omega
            · rw [h] at hg; simp at hg; omega, rr.2.2.2.2.2.1, s83, sbT⟩
          clear hO hbl hfar hfro hoth hat t1 t2 t3 t4 s1 s2 s3' s4' sb1 sx1 sr1 og1 oi1 dj1 kp1 hS1 hsz1 kD n1 n2 n3 p1 p2 p3 p4 p5 rr hp HP r3 r4 hsz2 s82 s83 sbT oi2 dj2 sb2 c0 c1 c2 c3 c4 c5 z0 z1 z2 z3 z4 f0 f1 f2 f3 f4
          go_upto_region 15 with fail
          obtain ⟨q1, q2, q3, q4, q5, q6, q7, q8, q9, q10, q11, q12, q13⟩ := HQ.out
          have hh := HH.out
          have sx := H3c.far1 q1 ⟨wr.heap.size, 4, none⟩ (show wr.heap.size ≠ w.heap.size by omega) (.int .i64 (k : Int))
          have sr := H3c.far1 q2 ⟨wr.heap.size, 4, none⟩ (show wr.heap.size ≠ w.heap.size + 1 by omega) (.int .i64 (k : Int))
          have sb := H3c.far1 q13 ⟨wr.heap.size, 4, none⟩ (show wr.heap.size ≠ w.heap.size + 2 by omega) (.int .i64 (k : Int))
          have s8 := H5c.set4 q12 (.int .i64 (k : Int))
          have og := OG.setNe q3 (b := wr.heap.size) (o := 4) q10 (.int .i64 (k : Int))
          have oi := OI.setNe q4 (b := wr.heap.size) (o := 4) q11 (.int .i64 (k : Int))
          have dj := q5
          have kp := Kp.setCell q6 (p := ⟨wr.heap.size, 4, none⟩) (show w.heap.size ≤ wr.heap.size by omega) (.int .i64 (k : Int))
          have hS : S ≤ ((w2.setCell ⟨w.heap.size + 2, 1, none⟩ (.slice pa2 (k + 1) ca2)).setCell ⟨wr.heap.size, 4, none⟩ (.int .i64 (k : Int))).heap.size := by simpa using q7
          clear q1 q2 q3 q4 q5 q6 q7 q8 q9 q10 q11 q12 q13 hh HQ
          generalize ((w2.setCell ⟨w.heap.size + 2, 1, none⟩ (.slice pa2 (k + 1) ca2)).setCell ⟨wr.heap.size, 4, none⟩ (.int .i64 (k : Int))) = WT at sx sr sb og oi s8 kp hS ⊢
          clear z0' z1' z2' z3' z4' f0' f1' f2' f3' f4' g0 g1 g2 g3 g4 g5 b0 b1 b1' b2' b3 b4 b5 HR HB2
          generalize wr.heap.size = B8 at s8 ⊢
          obtain ⟨l0, l1, l2, l3, l4, l5⟩ := id sb
          obtain ⟨y0, y1, y2, y3, y4, -⟩ := id s8
          have oi : WT.ownsRow S 61 5 (.slice pb i cb) i (flat5 (nLs 0 (L.take i))) := by
            have h := oi
            unfold OI at h
            rw [HT.out.2.2.2.2] at h
            exact h
          have kB : Kp WT (WT.alloc (.cells #[.int .i64 1, .int .i64 x1, .int .i64 x2, .int .i64 x3, .int .i64 (k : Int)] 61)) := (Kp.refl _).alloc _
          go_wp2_with (first | (at_builtin; refine wpList_append_own_at _ rfl _ _ 23 rfl S 61 i0 (.agg #[.int .i64 0, .int .i64 0, .int .i64 0, .int .i64 0, .int .i64 0]) 5 40 Try.underlying23 hi0 hi1 hi2 hi3 rfl (by decide) _ _ _ rfl (oi.alloc _) ⟨WT.heap.size, 0, none⟩ 1 1 [.int .i64 1, .int .i64 x1, .int .i64 x2, .int .i64 x3, .int .i64 (k : Int)] rfl rfl ?c1 ?c2 ?c3 ?c4 ?c5 ?_))
          case c1 =>
            intro j' u hj'
            match j', hj' with
            | 0, hj' => simp at hj'; subst hj'; simp [Addr.add]
            | 1, hj' => simp at hj'; subst hj'; simp [Addr.add]
            | 2, hj' => simp at hj'; subst hj'; simp [Addr.add]
            | 3, hj' => simp at hj'; subst hj'; simp [Addr.add]
            | 4, hj' => simp at hj'; subst hj'; simp [Addr.add]
          case c2 => intro u hu; simp at hu; rcases hu with rfl | rfl | rfl | rfl | rfl <;> rfl
          case c3 => unfold maxLen; omega
          case c4 => omega
          case c5 => simp; omega
          intro v' w2 hown2 hgrow _ hat
          obtain ⟨ht1, ht2, ht3, ht4, ht5⟩ := HT.out
          have hO : OI 61 w2 S v' (nLs 0 (L.take (i + 1))) := by
            rw [ht3]
            refine OI.push ?_
            rw [ht5]
            exact hown2
          obtain ⟨pb2, cb2, rfl⟩ := OI.arrN hO ht4
          have hob : ∀ k, (Value.slice pb i cb).ownBlock = some k → S ≤ k ∧ k < WT.heap.size := fun k hk => World.ownsRow.lt oi k hk
          have bl : Below S WT w2 := Below.grown (Below.alloc (Below.refl S WT) hS _) hgrow (by simp; omega) (fun k hk => (hob k hk).1)
          have hh := HH.out
          have sx2 := sx.bel bl (by omega)
          have sr2 := sr.bel bl (by omega)
          have sb2 := sb.bel bl (by omega)
          have og2 : OG ULV 66 w2 S (.slice pa2 (k + 1) ca2) (nCs ps (L.take (i + 1))) := by
            rw [← ht2]
            refine World.ownsRow.kept (OG.kp og kB) hgrow ?_
            cases e : (Value.slice pa2 (k + 1) ca2).ownBlock with
            | none => exact Or.inl rfl
            | some g => exact Or.inr (fun h9 => dj g h9.symm e)
          have dj2 : (∀ g, (Value.slice pb2 (i + 1) cb2).ownBlock = some g → (Value.slice pa2 (k + 1) ca2).ownBlock ≠ some g) := fun g hg h9 => by
            rcases hat with h | h
            · rw [h] at hg
              exact dj g hg h9
            · rw [h] at hg
              have h8 := og_lt og g h9
              simp at hg
              omega
          have kp2 : Kp w w2 := Kp.below kp bl (by omega)
          have hS2 : S ≤ w2.heap.size := by have := Below.size (Kp.refl w2); have h7 := hgrow.size; simp at h7; omega
          have HZ : Hid ((k + 1) = cN (L.take (i + 1)) ∧ H3c (w2.setCell ⟨w.heap.size + 2, 2, none⟩ (.slice pb2 (i + 1) cb2)) w.heap.size (.int .i64 V) (.slice (some ⟨b2, off2, none⟩) N cc) (.slice (some ⟨b, off, none⟩) M ck) ∧ H3c (w2.setCell ⟨w.heap.size + 2, 2, none⟩ (.slice pb2 (i + 1) cb2)) (w.heap.size + 1) (.int .i64 0) (.slice none 0 0) (.slice none 0 0) ∧ H3c (w2.setCell ⟨w.heap.size + 2, 2, none⟩ (.slice pb2 (i + 1) cb2)) (w.heap.size + 2) (.int .i64 V) (.slice pa2 (k + 1) ca2) (.slice pb2 (i + 1) cb2) ∧ OG ULV 66 (w2.setCell ⟨w.heap.size + 2, 2, none⟩ (.slice pb2 (i + 1) cb2)) S (.slice pa2 (k + 1) ca2) (nCs ps (L.take (i + 1))) ∧ OI 61 (w2.setCell ⟨w.heap.size + 2, 2, none⟩ (.slice pb2 (i + 1) cb2)) S (.slice pb2 (i + 1) cb2) (nLs 0 (L.take (i + 1))) ∧ (∀ g, (Value.slice pb2 (i + 1) cb2).ownBlock = some g → (Value.slice pa2 (k + 1) ca2).ownBlock ≠ some g) ∧ Kp w (w2.setCell ⟨w.heap.size + 2, 2, none⟩ (.slice pb2 (i + 1) cb2)) ∧ S ≤ (w2.setCell ⟨w.heap.size + 2, 2, none⟩ (.slice pb2 (i + 1) cb2)).heap.size) := ⟨ht1, H3c.far1 sx2 _ (show w.heap.size + 2 ≠ w.heap.size by omega) _, H3c.far1 sr2 _ (show w.heap.size + 2 ≠ w.heap.size + 1 by omega) _, H3c.set2 sb2 _, OG.setNe og2 (fun g hg => by have := og_block og2 g hg; omega) _, OI.setNe hO (fun g hg => by have := oi_block hO g hg; omega) _, dj2, kp2.setCell (show w.heap.size ≤ w.heap.size + 2 by omega) _, by simpa using hS2⟩
          obtain ⟨c0, c1, c2, c3, c4, c5⟩ := id sb2
          clear hO hown2 hgrow hat bl sx2 sr2 og2 dj2 kp2 hS2 sx sr sb og oi dj kp hS l0 l1 l2 l3 l4 l5 y0 y1 y2 y3 y4 s8 kB hob hh ht1 ht2 ht3 ht4 ht5 HT sb2
          go_wp2
          have hJ : i < M := HJ.out
          exact ⟨⟨i + 1, (k + 1), pa2, ca2, pb2, cb2, by go_num, hJ, HZ.out⟩, by simp [intOf]; omega⟩
      · obtain ⟨t1, t2, t3, t4⟩ := hno c1
        have d1 : (x0 == 1) = false := beq_eq_false_iff_ne.2 c1
        have HT : Hid (k = cN (L.take (i + 1)) ∧ nCs ps (L.take i) = nCs ps (L.take (i + 1)) ∧ nLs 0 (L.take (i + 1)) = nLs 0 (L.take i) ++ [(x0, x1, x2, x3, x4)] ∧ (nLs 0 (L.take (i + 1))).length = i + 1 ∧ (nLs 0 (L.take i)).length = i) := ⟨by rw [t1]; exact hk, t2.symm, t3, hlen2, hlen⟩
        replace sx := sx.keep kA
        replace sr := sr.keep kA
        replace sb := sb.keep kA
        replace og := og.kp kA
        replace oi := oi.kp kA
        replace kp := kp.trans kA
        replace hS := hSA
        clear hyes hno hgc hlt2 hX hc5 hx hy hN hM hN2 hM2 hc2 hln hk hk2 hlen hlen2 t1 t2 t3 t4 kA hSA HX a0 a1 a3 a4 a5
        go_upto_region 15 with fail
        generalize (wr.alloc (.cells #[.int .i64 x0, .int .i64 x1, .int .i64 x2, .int .i64 x3, .int .i64 x4] 61)) = WT at sx sr sb og oi s8 kp hS ⊢
        clear e0 e1 e2 e3 e4 a2
        generalize wr.heap.size = B8 at s8 ⊢
        obtain ⟨l0, l1, l2, l3, l4, l5⟩ := id sb
        obtain ⟨y0, y1, y2, y3, y4, -⟩ := id s8
        have oi : WT.ownsRow S 61 5 (.slice pb i cb) i (flat5 (nLs 0 (L.take i))) := by
          have h := oi
          unfold OI at h
          rw [HT.out.2.2.2.2] at h
          exact h
        have kB : Kp WT (WT.alloc (.cells #[.int .i64 x0, .int .i64 x1, .int .i64 x2, .int .i64 x3, .int .i64 x4] 61)) := (Kp.refl _).alloc _
        go_wp2_with (first | (at_builtin; refine wpList_append_own_at _ rfl _ _ 23 rfl S 61 i0 (.agg #[.int .i64 0, .int .i64 0, .int .i64 0, .int .i64 0, .int .i64 0]) 5 40 Try.underlying23 hi0 hi1 hi2 hi3 rfl (by decide) _ _ _ rfl (oi.alloc _) ⟨WT.heap.size, 0, none⟩ 1 1 [.int .i64 x0, .int .i64 x1, .int .i64 x2, .int .i64 x3, .int .i64 x4] rfl rfl ?c1 ?c2 ?c3 ?c4 ?c5 ?_))
        case c1 =>
          intro j' u hj'
          match j', hj' with
          | 0, hj' => simp at hj'; subst hj'; simp [Addr.add]
          | 1, hj' => simp at hj'; subst hj'; simp [Addr.add]
          | 2, hj' => simp at hj'; subst hj'; simp [Addr.add]
          | 3, hj' => simp at hj'; subst hj'; simp [Addr.add]
          | 4, hj' => simp at hj'; subst hj'; simp [Addr.add]
        case c2 => intro u hu; simp at hu; rcases hu with rfl | rfl | rfl | rfl | rfl <;> rfl
        case c3 => unfold maxLen; omega
        case c4 => omega
        case c5 => simp; omega
        intro v' w2 hown2 hgrow _ hat
        obtain ⟨ht1, ht2, ht3, ht4, ht5⟩ := HT.out
        have hO : OI 61 w2 S v' (nLs 0 (L.take (i + 1))) := by
          rw [ht3]
          refine OI.push ?_
          rw [ht5]
          exact hown2
        obtain ⟨pb2, cb2, rfl⟩ := OI.arrN hO ht4
        have hob : ∀ k, (Value.slice pb i cb).ownBlock = some k → S ≤ k ∧ k < WT.heap.size := fun k hk => World.ownsRow.lt oi k hk
        have bl : Below S WT w2 := Below.grown (Below.alloc (Below.refl S WT) hS _) hgrow (by simp; omega) (fun k hk => (hob k hk).1)
        have hh := HH.out
        have sx2 := sx.bel bl (by omega)
        have sr2 := sr.bel bl (by omega)
        have sb2 := sb.bel bl (by omega)
        have og2 : OG ULV 66 w2 S (.slice pa k ca) (nCs ps (L.take (i + 1))) := by
          rw [← ht2]
          refine World.ownsRow.kept (OG.kp og kB) hgrow ?_
          cases e : (Value.slice pa k ca).ownBlock with
          | none => exact Or.inl rfl
          | some g => exact Or.inr (fun h9 => dj g h9.symm e)
        have dj2 : (∀ g, (Value.slice pb2 (i + 1) cb2).ownBlock = some g → (Value.slice pa k ca).ownBlock ≠ some g) := fun g hg h9 => by
          rcases hat with h | h
          · rw [h] at hg
            exact dj g hg h9
          · rw [h] at hg
            have h8 := og_lt og g h9
            simp at hg
            omega
        have kp2 : Kp w w2 := Kp.below kp bl (by omega)
        have hS2 : S ≤ w2.heap.size := by have := Below.size (Kp.refl w2); have h7 := hgrow.size; simp at h7; omega
        have HZ : Hid (k = cN (L.take (i + 1)) ∧ H3c (w2.setCell ⟨w.heap.size + 2, 2, none⟩ (.slice pb2 (i + 1) cb2)) w.heap.size (.int .i64 V) (.slice pc N cc) (.slice (some ⟨b, off, none⟩) M ck) ∧ H3c (w2.setCell ⟨w.heap.size + 2, 2, none⟩ (.slice pb2 (i + 1) cb2)) (w.heap.size + 1) (.int .i64 0) (.slice none 0 0) (.slice none 0 0) ∧ H3c (w2.setCell ⟨w.heap.size + 2, 2, none⟩ (.slice pb2 (i + 1) cb2)) (w.heap.size + 2) (.int .i64 V) (.slice pa k ca) (.slice pb2 (i + 1) cb2) ∧ OG ULV 66 (w2.setCell ⟨w.heap.size + 2, 2, none⟩ (.slice pb2 (i + 1) cb2)) S (.slice pa k ca) (nCs ps (L.take (i + 1))) ∧ OI 61 (w2.setCell ⟨w.heap.size + 2, 2, none⟩ (.slice pb2 (i + 1) cb2)) S (.slice pb2 (i + 1) cb2) (nLs 0 (L.take (i + 1))) ∧ (∀ g, (Value.slice pb2 (i + 1) cb2).ownBlock = some g → (Value.slice pa k ca).ownBlock ≠ some g) ∧ Kp w (w2.setCell ⟨w.heap.size + 2, 2, none⟩ (.slice pb2 (i + 1) cb2)) ∧ S ≤ (w2.setCell ⟨w.heap.size + 2, 2, none⟩ (.slice pb2 (i + 1) cb2)).heap.size) := ⟨ht1, H3c.far1 sx2 _ (show w.heap.size + 2 ≠ w.heap.size by omega) _, H3c.far1 sr2 _ (show w.heap.size + 2 ≠ w.heap.size + 1 by omega) _, H3c.set2 sb2 _, OG.setNe og2 (fun g hg => by have := og_block og2 g hg; omega) _, OI.setNe hO (fun g hg => by have := oi_block hO g hg; omega) _, dj2, kp2.setCell (show w.heap.size ≤ w.heap.size + 2 by omega) _, by simpa using hS2⟩
        obtain ⟨c0, c1, c2, c3, c4, c5⟩ := id sb2
        clear hO hown2 hgrow hat bl sx2 sr2 og2 dj2 kp2 hS2 sx sr sb og oi dj kp hS l0 l1 l2 l3 l4 l5 y0 y1 y2 y3 y4 s8 kB hob hh ht1 ht2 ht3 ht4 ht5 HT sb2
        go_wp2
        have hJ : i < M := HJ.out
        exact ⟨⟨i + 1, k, pa, ca, pb2, cb2, by go_num, hJ, HZ.out⟩, by simp [intOf]; omega⟩
    · have hiM : i = M := by omega
      rw [show L.take i = L from List.take_of_length_le (by omega)] at hk og oi
      subst hiM
      have HZ : Hid (OG ULV 66 wr S (.slice pa k ca) (nCs ps L) ∧ OI 61 wr S (.slice pb i cb) (nLs 0 L) ∧ Kp w wr ∧ k = cN L ∧ S ≤ wr.heap.size) := ⟨og, oi, kp, hk, hS⟩
      obtain ⟨b0, b1, b2, b3, b4, b5⟩ := id sb
      obtain ⟨r0, r1, r2, r3, r4, r5⟩ := id sr
      obtain ⟨a0, a1, a2, a3, a4, a5⟩ := id sx
      clear hx hy hN hM hN2 hM2 hc2 hln hk hk2 og oi kp hS HX sb sx sr dj
      go_wp2
      have hh := HH.out
      obtain ⟨zg, zi, zk, zc, zs⟩ := HZ.out
      have hog := og_sets3 zg (b := w.heap.size + 1) (fun g hg => by have := og_block zg g hg; omega) (.int .i64 V) (.slice pa k ca) (.slice pb i cb)
      have hoi := oi_sets3 zi (b := w.heap.size + 1) (fun g hg => by have := oi_block zi g hg; omega) (.int .i64 V) (.slice pa k ca) (.slice pb i cb)
      obtain ⟨pa', ca', ea, aa, -⟩ := hog.arr
      obtain ⟨pb', cb', eb, ab, -, -⟩ := hoi.arr
      simp only [Value.slice.injEq] at ea eb
      obtain ⟨rfl, -, rfl⟩ := ea
      obtain ⟨rfl, -, rfl⟩ := eb
      refine bodyPost_ret (v := .tuple #[.agg #[.int .i64 V, .slice pa k ca, .slice pb i cb], .int .i64 0]) (by simp [results, Try.results17, go_sem, r0, r1, r2]) rfl ⟨pa, ca, pb, cb, by rw [zc], aa, ab, ((zk.setCell (by simp) _).setCell (by simp) _).setCell (by simp) _⟩
end X7
end Go.Proofs.Ytipedmnipolmeaa
namespace Go.Proofs.Ytipedmnipolmeaa
open Go.RowKit
open Go
namespace X7
set_option linter.unusedVariables false
theorem pnorm_ (V : Int) (pc pk : Option Addr) (cc ck : Nat) (ps : List (Nat × Nat)) (L : List I5) (w : World) (hx : AG FLV w pc ps) (hy : AI w pk L) (hw : Wq ps) (lx : ps.length ≤ 1048576) (ly : L.length ≤ 1048576) :
    Calls Try.prog 16 #[.agg #[.int .i64 V, .slice pc ps.length cc, .slice pk L.length ck]] w fun e w' => ∃ pa ca pb cb, e = .returned (.tuple #[.agg #[.int .i64 (nV V ps L), .slice pa (nP V ps L).length ca, .slice pb (nQ V ps L).length cb], .int .i64 (nE V ps L)]) ∧ AG FLV w' pa (nP V ps L) ∧ AI w' pb (nQ V ps L) ∧ Kp w w' := by
  by_cases he : (chk V ps L).2 = 0
  · by_cases hc : cN L ≤ 256
    · have e1 : nV V ps L = V := by unfold nV; rw [if_pos ⟨he, hc⟩]
      have e2 : nP V ps L = nCs ps L := by unfold nP; rw [if_pos ⟨he, hc⟩]
      have e3 : nQ V ps L = nLs 0 L := by unfold nQ; rw [if_pos ⟨he, hc⟩]
      have e4 : nE V ps L = 0 := by unfold nE; rw [if_neg (not_not_intro he), if_pos hc]
      rw [e1, e2, e3, e4]
      exact pnormO_ V pc pk cc ck ps L he hc w hx hy hw lx ly
    · have e1 : nV V ps L = 0 := by unfold nV; rw [if_neg (fun h => hc h.2)]
      have e2 : nP V ps L = [] := by unfold nP; rw [if_neg (fun h => hc h.2)]
      have e3 : nQ V ps L = [] := by unfold nQ; rw [if_neg (fun h => hc h.2)]
      have e4 : nE V ps L = 161 := by unfold nE; rw [if_neg (not_not_intro he), if_neg hc]
      rw [e1, e2, e3, e4]
      refine (pnormT_ V pc pk cc ck ps L he hc w hx hy hw lx ly).mono ?_
      rintro e w' ⟨rfl, hk⟩
      exact ⟨none, 0, none, 0, rfl, Or.inl rfl, Or.inl rfl, hk⟩
  · have e1 : nV V ps L = 0 := by unfold nV; rw [if_neg (fun h => he h.1)]
    have e2 : nP V ps L = [] := by unfold nP; rw [if_neg (fun h => he h.1)]
    have e3 : nQ V ps L = [] := by unfold nQ; rw [if_neg (fun h => he h.1)]
    have e4 : nE V ps L = (chk V ps L).2 := by unfold nE; rw [if_pos he]
    rw [e1, e2, e3, e4]
    refine (pnormE_ V pc pk cc ck ps L he w hx hy hw lx ly).mono ?_
    rintro e w' ⟨rfl, hk⟩
    exact ⟨none, 0, none, 0, rfl, Or.inl rfl, Or.inl rfl, hk⟩
theorem rnorm_ (V : Int) (pc pk : Option Addr) (cc ck : Nat) (ps : List (Nat × Nat)) (L : List I5) (w : World) (hx : AG ULV w pc ps) (hy : AI w pk L) (hw : Wq ps) (lx : ps.length ≤ 1048576) (ly : L.length ≤ 1048576) :
    Calls Try.prog 17 #[.agg #[.int .i64 V, .slice pc ps.length cc, .slice pk L.length ck]] w fun e w' => ∃ pa ca pb cb, e = .returned (.tuple #[.agg #[.int .i64 (nV V ps L), .slice pa (nP V ps L).length ca, .slice pb (nQ V ps L).length cb], .int .i64 (nE V ps L)]) ∧ AG ULV w' pa (nP V ps L) ∧ AI w' pb (nQ V ps L) ∧ Kp w w' := by
  by_cases he : (chk V ps L).2 = 0
  · by_cases hc : cN L ≤ 256
    · have e1 : nV V ps L = V := by unfold nV; rw [if_pos ⟨he, hc⟩]
      have e2 : nP V ps L = nCs ps L := by unfold nP; rw [if_pos ⟨he, hc⟩]
      have e3 : nQ V ps L = nLs 0 L := by unfold nQ; rw [if_pos ⟨he, hc⟩]
      have e4 : nE V ps L = 0 := by unfold nE; rw [if_neg (not_not_intro he), if_pos hc]
      rw [e1, e2, e3, e4]
      exact rnormO_ V pc pk cc ck ps L he hc w hx hy hw lx ly
    · have e1 : nV V ps L = 0 := by unfold nV; rw [if_neg (fun h => hc h.2)]
      have e2 : nP V ps L = [] := by unfold nP; rw [if_neg (fun h => hc h.2)]
      have e3 : nQ V ps L = [] := by unfold nQ; rw [if_neg (fun h => hc h.2)]
      have e4 : nE V ps L = 161 := by unfold nE; rw [if_neg (not_not_intro he), if_neg hc]
      rw [e1, e2, e3, e4]
      refine (rnormT_ V pc pk cc ck ps L he hc w hx hy hw lx ly).mono ?_
      rintro e w' ⟨rfl, hk⟩
      exact ⟨none, 0, none, 0, rfl, Or.inl rfl, Or.inl rfl, hk⟩
  · have e1 : nV V ps L = 0 := by unfold nV; rw [if_neg (fun h => he h.1)]
    have e2 : nP V ps L = [] := by unfold nP; rw [if_neg (fun h => he h.1)]
    have e3 : nQ V ps L = [] := by unfold nQ; rw [if_neg (fun h => he h.1)]
    have e4 : nE V ps L = (chk V ps L).2 := by unfold nE; rw [if_pos he]
    rw [e1, e2, e3, e4]
    refine (rnormE_ V pc pk cc ck ps L he w hx hy hw lx ly).mono ?_
    rintro e w' ⟨rfl, hk⟩
    exact ⟨none, 0, none, 0, rfl, Or.inl rfl, Or.inl rfl, hk⟩
set_option maxRecDepth 20000 in
set_option maxHeartbeats 4000000 in
theorem infixnormals_ (V : Int) (pc pk : Option Addr) (cc ck : Nat) (ps : List (Nat × Nat)) (L : List I5) (w : World) (hx : AG ULV w pc ps) (hy : AI w pk L) (hw : Wq ps) (lx : ps.length ≤ 1048576) (ly : L.length ≤ 1048576) :
    Calls Try.prog 5 #[.agg #[.int .i64 V, .slice pc ps.length cc, .slice pk L.length ck]] w fun e w' => e = .returned (.bool true) ∧ Kp w w' := by
  have hma := fun (W : World) (g : Kp w W) => made2_ V pc pk cc ck ps L W (hx.grown g) (hy.grown g) lx ly
  have hpn := fun (W : World) (qa qb : Option Addr) (da db : Nat) (ha : AG FLV W qa ps) (hb : AI W qb L) => pnorm_ V qa qb da db ps L W ha hb hw lx ly
  have hrn := fun (W : World) (g : Kp w W) => rnorm_ V pc pk cc ck ps L W (hx.grown g) (hy.grown g) hw lx ly
  have hlP : (nP V ps L).length ≤ 1048576 := by
    unfold nP
    split
    · rw [nCs_len]; exact Nat.le_trans (cN_le L) ly
    · simp
  have hlQ : (nQ V ps L).length ≤ 1048576 := by
    unfold nQ
    split
    · rw [nLs_len]; exact ly
    · simp
  have hrd := fun (W : World) (qa qb : Option Addr) (da db : Nat) (ha : AG FLV W qa (nP V ps L)) (hb : AI W qb (nQ V ps L)) => readq2_ (nV V ps L) qa qb da db (nP V ps L) (nQ V ps L) W ha hb hlP hlQ
  have heq := fun (W : World) (p q r s : Option Addr) (c d e f : Nat) (h1 : AG ULV W p (nP V ps L)) (h2 : AG ULV W q (nP V ps L)) (h3 : AI W r (nQ V ps L)) (h4 : AI W s (nQ V ps L)) => equal_ (nV V ps L) p q r s c d e f (nP V ps L) (nQ V ps L) W h1 h2 h3 h4 hlP hlQ
  generalize nV V ps L = v at *
  generalize nE V ps L = er at *
  generalize nP V ps L = PS at *
  generalize nQ V ps L = QS at *
  obtain ⟨P, hP⟩ : ∃ P, P = PS.length := ⟨_, rfl⟩
  obtain ⟨Q, hQ⟩ : ∃ Q, Q = QS.length := ⟨_, rfl⟩
  rw [← hP] at hpn hrn hrd heq
  rw [← hQ] at hpn hrn hrd heq
  generalize ps.length = N at hma hpn hrn ⊢
  generalize L.length = M at hma hpn hrn ⊢
  have z0 : (w.alloc (.cells #[.int .i64 V, .slice pc N cc, .slice pk M ck] 25)).cell? ⟨w.heap.size, 0, none⟩ = some (.int .i64 V) := by simp [go_sem]
  have z1 : (w.alloc (.cells #[.int .i64 V, .slice pc N cc, .slice pk M ck] 25)).cell? ⟨w.heap.size, 1, none⟩ = some (.slice pc N cc) := by simp [go_sem]
  have z2 : (w.alloc (.cells #[.int .i64 V, .slice pc N cc, .slice pk M ck] 25)).cell? ⟨w.heap.size, 2, none⟩ = some (.slice pk M ck) := by simp [go_sem]
  have kw : Kp w (w.alloc (.cells #[.int .i64 V, .slice pc N cc, .slice pk M ck] 25)) := (Kp.refl w).alloc _
  clear hx hy hw lx ly hlP hlQ hP hQ
  go_enter Try.func5, Try.ntmps5
  go_upto_region 2 with (first | (go_at_call 7; refine (hma _ kw).mono ?_; rintro e1 w1 ⟨pa, ca, pb, cb, rfl, ha, hb, g1⟩; replace kw := kw.trans g1; replace z0 := kkeep g1 z0; replace z1 := kkeep g1 z1; replace z2 := kkeep g1 z2; have hq := hpn w1 pa pb ca cb ha hb; clear ha hb g1) | (go_at_call 16; refine hq.mono ?_; rintro e2 w2 ⟨qa, ca2, qb, cb2, rfl, ha2, hb2, g2⟩; replace kw := kw.trans g2; replace z0 := kkeep g2 z0; replace z1 := kkeep g2 z1; replace z2 := kkeep g2 z2; clear hq g2))
  have kA : Kp w2 (w2.alloc (.cells #[.int .i64 v, .slice qa P ca2, .slice qb Q cb2] 32)) := (Kp.refl w2).alloc _
  have x := H3c.new w2 (.int .i64 v) (.slice qa P ca2) (.slice qb Q cb2) 32
  replace kw := kw.trans kA
  replace z0 := kkeep kA z0
  replace z1 := kkeep kA z1
  replace z2 := kkeep kA z2
  replace ha2 := ha2.grown kA
  replace hb2 := hb2.grown kA
  generalize (w2.alloc (.cells #[.int .i64 v, .slice qa P ca2, .slice qb Q cb2] 32)) = W2 at kw z0 z1 z2 ha2 hb2 x ⊢
  generalize w2.heap.size = B3 at x ⊢
  clear kA hma hpn
  go_upto_region 3 with (first | (go_at_call 17; refine (hrn _ kw).mono ?_; rintro e3 w3 ⟨ra, da2, rb, db2, rfl, ha3, hb3, g3⟩; replace kw := kw.trans g3; replace x := x.keep g3; replace ha2 := ha2.grown g3; replace hb2 := hb2.grown g3; clear g3))
  have kA : Kp w3 (w3.alloc (.cells #[.int .i64 v, .slice ra P da2, .slice rb Q db2] 25)) := (Kp.refl w3).alloc _
  have y := H3c.new w3 (.int .i64 v) (.slice ra P da2) (.slice rb Q db2) 25
  replace kw := kw.trans kA
  replace x := x.keep kA
  replace ha2 := ha2.grown kA
  replace hb2 := hb2.grown kA
  replace ha3 := ha3.grown kA
  replace hb3 := hb3.grown kA
  generalize (w3.alloc (.cells #[.int .i64 v, .slice ra P da2, .slice rb Q db2] 25)) = W3 at kw x y ha2 hb2 ha3 hb3 ⊢
  generalize w3.heap.size = B5 at y ⊢
  obtain ⟨x0, x1, x2, -⟩ := id x
  obtain ⟨y0, y1, y2, -⟩ := id y
  clear kA hrn x y z0 z1 z2
  have ee : (er == er) = true := by simp
  have kd : Kp W3 W3.drew := (Kp.refl W3).drew
  replace ha2 := ha2.grown kd
  replace hb2 := hb2.grown kd
  replace ha3 := ha3.grown kd
  replace hb3 := hb3.grown kd
  replace kw := kw.trans kd
  have x0' := kkeep kd x0
  have x1' := kkeep kd x1
  have x2' := kkeep kd x2
  have y0' := kkeep kd y0
  have y1' := kkeep kd y1
  have y2' := kkeep kd y2
  go_region_held3 (fun w' => w'.cell? ⟨B3, 0, none⟩ = some (.int .i64 v) ∧ w'.cell? ⟨B3, 1, none⟩ = some (.slice qa P ca2) ∧ w'.cell? ⟨B3, 2, none⟩ = some (.slice qb Q cb2) ∧ w'.cell? ⟨B5, 0, none⟩ = some (.int .i64 v) ∧ w'.cell? ⟨B5, 1, none⟩ = some (.slice ra P da2) ∧ w'.cell? ⟨B5, 2, none⟩ = some (.slice rb Q db2)) (first | (with_reducible exact ⟨x0, x1, x2, y0, y1, y2⟩) | (with_reducible exact ⟨x0', x1', x2', y0', y1', y2'⟩) | (exact ⟨kkeep k5 x0', kkeep k5 x1', kkeep k5 x2', kkeep k5 y0', kkeep k5 y1', kkeep k5 y2'⟩) | (exact ⟨kkeep k6 x0', kkeep k6 x1', kkeep k6 x2', kkeep k6 y0', kkeep k6 y1', kkeep k6 y2'⟩)) (first | (go_at_call 15; refine (hrd _ qa qb ca2 cb2 ha2 hb2).mono ?_; rintro e9 w5 ⟨sa, c9, sb, d9, rfl, ha4, hb4, g5⟩; have k5 : Kp W3.drew w5 := g5; replace ha3 := ha3.grown g5; replace hb3 := hb3.grown g5; have hq5 := heq w5 sa ra sb rb c9 da2 d9 db2 ha4 ha3 hb4 hb3) | (go_at_call 14; refine hq5.mono ?_; rintro e9 w6 ⟨rfl, g6⟩; have k6 : Kp W3.drew w6 := k5.trans g6))
  all_goals (
    go_wp2
    exact bodyPost_ret (v := .bool true) (by simp [results, Try.results5, go_sem]) rfl ⟨rfl, kw.trans k6⟩)
end X7
end Go.Proofs.Ytipedmnipolmeaa
