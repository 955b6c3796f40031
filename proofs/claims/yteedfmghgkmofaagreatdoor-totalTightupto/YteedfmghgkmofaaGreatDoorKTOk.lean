import Derived.Test.YteedfmghgkmofaaGreatDoorKTOg
import Derived.Laws.AppendOwn
import Derived.Laws.MakeOwn
namespace Go.Proofs.YteedfmghgkmofaaGreatDoor
open Go.RowKit

theorem nat_step (L : List Int) (z : List Nat) (i x : Nat) (hi : i < z.length) (hx : x = z.getD i 0) (hl : L.length = 2 * i) (hv : val L = wv (z.take i)) : val (L ++ [((x % 4294967296 : Nat) : Int), ((x / 4294967296 : Nat) : Int)]) = wv (z.take (i + 1)) := by
  rw [val_append, wv_take_succ z i hi, ← hx, hl, hv]
  simp only [val, Int.toNat_natCast, Nat.mul_zero, Nat.add_zero]
  rw [Nat.pow_mul, show (4294967296 : Nat) ^ 2 = 18446744073709551616 from rfl]
  have e := Nat.mod_add_div x 4294967296
  generalize x % 4294967296 = r at *
  generalize x / 4294967296 = q at *
  rw [e, Nat.mul_comm]
theorem nat_wd (L : List Int) (x : Nat) (h : Wd L) (hx : x < 18446744073709551616) : Wd (L ++ [((x % 4294967296 : Nat) : Int), ((x / 4294967296 : Nat) : Int)]) :=
  h.append (Wd.mk ⟨by omega, by omega⟩ (Wd.mk ⟨by omega, by omega⟩ Wd.nil))
theorem Own.push2 {w : World} {base : Nat} {v : Value} {xs : List Int} {X Y : Int} (h : w.ownsRow base 100 1 v (xs.length + 2) (xs.map (Value.int .u32) ++ [.int .u32 X, .int .u32 Y])) : Own w base v (xs ++ [X, Y]) := by
  unfold Own
  rw [List.length_append, List.map_append]
  exact h
set_option maxRecDepth 20000 in
set_option maxHeartbeats 1000000 in
theorem natP_ (ws : List Nat) (V : Int) (hV : Rep ws V) (hb : V.natAbs < wh) (c0 : ¬ V < 0) (w : World) : Calls Tryz.prog 46 #[.agg (wc ws)] w fun e w' => ∃ (v : Value) (xs : List Int), e = .returned (.tuple #[.bool false, v]) ∧ Own w' w.heap.size v xs ∧ Wd xs ∧ xs.length = 134 ∧ val xs = V.natAbs ∧ Kp w w' := by
  have hbl := below_ ws hV.1 hV.2.1
  rw [show decide (9223372036854775808 ≤ ws.getD 66 0) = false from by simp only [decide_eq_false_iff_not, hV.below hb]; exact c0] at hbl
  obtain ⟨i0, hi0, hi1, hi2, hi3⟩ := inf32p
  have hmk : ∀ w : World, (Instr.makeSlice 41 (.int .i64 0) (.int .i64 134)).run Tryz.prog w = .ok (.slice (some ⟨w.heap.size, 0, none⟩) 0 134) (w.alloc (.cells (madeCells #[.int .u32 0] 134) 100)) := fun w => by
    have := run_make (P := Tryz.prog) w 41 100 i0 (.int .u32 0) Tryz.underlying41 hi0 hi1 .i64 .i64 0 134 (by decide) (by decide) (by rw [hi3]; decide) (by decide)
    rw [hi2] at this
    exact this
  have hms : (madeCells #[.int .u32 0] 134 : Array Value).size = 134 := size_madeCells _ _
  generalize (madeCells #[.int .u32 0] 134 : Array Value) = MC at *
  have hval := hV.val hb
  rw [if_neg c0] at hval
  have hval : wv ws = V.natAbs := by omega
  have HV : Hid (Rep ws V ∧ wv ws = V.natAbs) := ⟨hV, hval⟩
  have hl := hV.1
  have hs := wc_size ws
  rw [hl] at hs
  have hn0 : Bk (w.alloc (.cells (wc ws) 52)) w.heap.size (wc ws) 52 := Bk.new _ _ _
  have hld := loadW hn0 hl
  have HN : Hid (Bk (w.alloc (.cells (wc ws) 52)) w.heap.size (wc ws) 52 ∧ Kp w (w.alloc (.cells (wc ws) 52))) := ⟨hn0, (Kp.refl w).alloc _⟩
  clear hV hb c0 hval hn0
  go_enter Tryz.func46, Tryz.ntmps46
  go_upto_region 1 with fail
  refine wp_region_list ?_
  refine wpl_load rfl 52 _ rfl w.heap.size 0 rfl _ hld ?_
  go_upto_region 5 with (first | (go_at_call 81; refine (hbl _).mono ?_; rintro e w1 ⟨rfl, g1⟩))
  obtain ⟨hn0, kw0⟩ := HN.out
  obtain ⟨hV, hval⟩ := HV.out
  have hzl := hV.1
  have hzf := hV.2.1
  have k9 := kw0.trans g1
  have h9 := hn0.kp g1
  have o9 := (World.ownsRow_made (base := w.heap.size) (size := 1) (e := 100) w1 MC 134 k9.size (by decide) (by rw [hms]))
  have h9 := h9.alloc (.cells MC 100)
  have k9 := k9.alloc (.cells MC 100)
  clear hV hn0 kw0 g1 hbl hld hl hs
  generalize w1 = W1 at *
  generalize hW2 : W1.alloc (.cells MC 100) = W2 at *
  generalize W1.heap.size = gb at *
  have hldT := loadW h9 hzl
  refine wp_region_list ?_
  refine wpl_load rfl 52 _ rfl w.heap.size 0 rfl _ hldT ?_
  have HD : Hid (ws.length = 67 ∧ Wf ws ∧ wv ws = V.natAbs) := ⟨hzl, hzf, hval⟩
  clear HV HN hldT h9 hzl hzf hval hms hmk
  go_wp2
  go_loopw [3, 13] (fun vv ii wr => ∃ (v : Value) (i : Nat) (xs : List Int), v = vv ∧ ii = .int .i64 (i : Int) ∧ i ≤ 67 ∧ Own wr w.heap.size v xs ∧ xs.length = 2 * i ∧ Wd xs ∧ val xs = wv (ws.take i) ∧ Kp w wr) (fun _ i _ => 67 - (intOf i).toNat)
  case atStart => exact ⟨_, 0, [], rfl, rfl, by omega, o9, rfl, Wd.nil, by simp [val, wv], k9⟩
  case round =>
    clear o9 k9
    obtain ⟨v, i, xs, rfl, rfl, hi, hown, hxl, hwx, hvx, hkp⟩ := hrel
    obtain ⟨hzl, hzf, hval⟩ := HD.out
    by_cases ci : i < 67
    · have ix := idxW (wc ws) i _ ci (wc_get ws i (by omega))
      have hx := hzf i
      have hv2 := nat_step xs ws i (ws.getD i 0) (by omega) rfl hxl hvx
      have hw2 := nat_wd xs (ws.getD i 0) hwx hx
      generalize ws.getD i 0 = x at *
      have f1 : IntKind.u32.wrap (x : Int) = ((x % 4294967296 : Nat) : Int) := by rw [IntKind.wrap_u32]; omega
      have f2 : (x : Int) / 4294967296 = ((x / 4294967296 : Nat) : Int) := by omega
      have f3 : IntKind.u32.wrap ((x / 4294967296 : Nat) : Int) = ((x / 4294967296 : Nat) : Int) := by rw [IntKind.wrap_u32]; omega
      generalize ((x / 4294967296 : Nat) : Int) = XH at *
      generalize ((x % 4294967296 : Nat) : Int) = XL at *
      have hob := own_block hown
      have hl2 : (xs ++ [XL, XH]).length = 2 * (i + 1) := by rw [List.length_append, hxl]; simp; omega
      have hown' : wr.ownsRow w.heap.size 100 1 v xs.length (xs.map (Value.int .u32)) := hown
      have j1 : (i : Int) < 67 := by omega
      have j2 : i + 1 ≤ 67 := by omega
      have j3 : 67 - (i + 1) < 67 - i := by omega
      have j4 : xs.length + 2 ≤ 134 := by omega
      have hsz := hkp.size
      clear hxl hwx hvx hx hown hi hzl hzf hval HD
      go_wp2_with (first | (at_builtin; refine wpList_append_own _ rfl _ _ 41 rfl w.heap.size 100 i0 (.int .u32 0) 1 4 Tryz.underlying41 hi0 hi1 hi2 hi3 rfl (by decide) _ _ _ rfl (hown'.alloc _) ⟨wr.heap.size, 0, none⟩ 2 2 [.int .u32 XL, .int .u32 XH] rfl rfl ?c1 ?c2 ?c3 ?c4 ?c5 ?_))
      case c1 =>
        intro j' u hj'
        match j', hj' with
        | 0, hj' => simp at hj'; subst hj'; simp [Addr.add]
        | 1, hj' => simp at hj'; subst hj'; simp [Addr.add]
      case c2 => intro u hu; simp at hu; rcases hu with rfl | rfl <;> rfl
      case c3 => unfold maxLen; omega
      case c4 => omega
      case c5 => simp; omega
      intro v' w1 hown2 hgrow _
      have hO : Own w1 w.heap.size v' (xs ++ [XL, XH]) := Own.push2 hown2
      have hK2 : Kp w w1 := (hkp.alloc _).grown hgrow hob
      clear hown2 hgrow hown' hkp hob hsz
      go_wp2
      exact ⟨⟨_, i + 1, _, rfl, by go_num, j2, hO, hl2, hw2, hv2, hK2⟩, (show 67 - (i + 1) < 67 - i from j3)⟩
    · have hi67 : i = 67 := by omega
      have hv3 : val xs = V.natAbs := by rw [hvx, hi67, List.take_of_length_le (by omega), hval]
      have hl3 : xs.length = 134 := by omega
      have t1 : ¬ ((i : Int) < 67) := by omega
      clear hxl hvx hi hi67 ci hzl hzf hval HD
      go_wp2
      exact bodyPost_ret (v := .tuple #[.bool false, v]) (by simp [results, Tryz.results46, go_sem]) rfl ⟨v, rfl, xs, hown, hwx, hl3, hv3, hkp⟩
set_option maxRecDepth 20000 in
set_option maxHeartbeats 1000000 in
theorem natN_ (ws : List Nat) (V : Int) (hV : Rep ws V) (hb : V.natAbs < wh) (c0 : V < 0) (w : World) : Calls Tryz.prog 46 #[.agg (wc ws)] w fun e w' => ∃ (v : Value) (xs : List Int), e = .returned (.tuple #[.bool true, v]) ∧ Own w' w.heap.size v xs ∧ Wd xs ∧ xs.length = 134 ∧ val xs = V.natAbs ∧ Kp w w' := by
  have hbl := below_ ws hV.1 hV.2.1
  rw [show decide (9223372036854775808 ≤ ws.getD 66 0) = true from by simp only [decide_eq_true_eq, hV.below hb]; exact c0] at hbl
  obtain ⟨i0, hi0, hi1, hi2, hi3⟩ := inf32p
  have hmk : ∀ w : World, (Instr.makeSlice 41 (.int .i64 0) (.int .i64 134)).run Tryz.prog w = .ok (.slice (some ⟨w.heap.size, 0, none⟩) 0 134) (w.alloc (.cells (madeCells #[.int .u32 0] 134) 100)) := fun w => by
    have := run_make (P := Tryz.prog) w 41 100 i0 (.int .u32 0) Tryz.underlying41 hi0 hi1 .i64 .i64 0 134 (by decide) (by decide) (by rw [hi3]; decide) (by decide)
    rw [hi2] at this
    exact this
  have hms : (madeCells #[.int .u32 0] 134 : Array Value).size = 134 := size_madeCells _ _
  generalize (madeCells #[.int .u32 0] 134 : Array Value) = MC at *
  have htu := turned_ ws V hV
  have HV : Hid (V.natAbs < wh ∧ V < 0) := ⟨hb, c0⟩
  have hl := hV.1
  have hs := wc_size ws
  rw [hl] at hs
  have hn0 : Bk (w.alloc (.cells (wc ws) 52)) w.heap.size (wc ws) 52 := Bk.new _ _ _
  have hld := loadW hn0 hl
  have HN : Hid (Bk (w.alloc (.cells (wc ws) 52)) w.heap.size (wc ws) 52 ∧ Kp w (w.alloc (.cells (wc ws) 52))) := ⟨hn0, (Kp.refl w).alloc _⟩
  clear hV hb c0  hn0
  go_enter Tryz.func46, Tryz.ntmps46
  go_upto_region 1 with fail
  refine wp_region_list ?_
  refine wpl_load rfl 52 _ rfl w.heap.size 0 rfl _ hld ?_
  go_upto_region 3 with (first | (go_at_call 81; refine (hbl _).mono ?_; rintro e w1 ⟨rfl, g1⟩))
  obtain ⟨hn0, kw0⟩ := HN.out
  have hn1 := hn0.kp g1
  have hld3 := loadW hn1 hl
  refine wp_region_list ?_
  refine wpl_load rfl 52 _ rfl w.heap.size 0 rfl _ hld3 ?_
  go_upto_region 5 with (first | (go_at_call 66; refine (htu _).mono ?_; rintro e w2 ⟨z, rfl, hz, g2⟩; have hn2 := hn1.kp g2; have hst := putW (ws := z) hn2 (by rw [wc_size, hl]) hz.1; have hn3 := hn2.setRow (wc z); have hzs : (wc z).size = 67 := (by rw [wc_size, hz.1])))
  have kp3 : Kp w (w2.setRow w.heap.size (wc z)) := ((kw0.trans g1).trans g2).setRow (Nat.le_refl _) _
  have hval := hz.val (by rw [Int.natAbs_neg]; exact HV.out.1)
  rw [if_neg (by have := HV.out.2; omega)] at hval
  have hval : wv z = V.natAbs := by have := HV.out.2; omega
  have hzl := hz.1
  have hzf := hz.2.1
  have k9 := kp3
  have h9 := hn3
  have o9 := (World.ownsRow_made (base := w.heap.size) (size := 1) (e := 100) (w2.setRow w.heap.size (wc z)) MC 134 k9.size (by decide) (by rw [hms]))
  rw [show (w2.setRow w.heap.size (wc z)).heap.size = w2.heap.size from by simp [World.setRow]] at o9
  have h9 := h9.alloc (.cells MC 100)
  have k9 := k9.alloc (.cells MC 100)
  generalize w2.setRow w.heap.size (wc z) = W1 at *
  generalize w2.heap.size = gb at *
  clear hz hst hn2 hn3 kp3 hn1 hn0 kw0 g1 g2 hbl htu hld hld3 hl hs hzs
  generalize hW2 : W1.alloc (.cells MC 100) = W2 at *
  have hldT := loadW h9 hzl
  refine wp_region_list ?_
  refine wpl_load rfl 52 _ rfl w.heap.size 0 rfl _ hldT ?_
  have HD : Hid (z.length = 67 ∧ Wf z ∧ wv z = V.natAbs) := ⟨hzl, hzf, hval⟩
  clear HV HN hldT h9 hzl hzf hval hms hmk
  go_wp2
  go_loopw [3, 13] (fun vv ii wr => ∃ (v : Value) (i : Nat) (xs : List Int), v = vv ∧ ii = .int .i64 (i : Int) ∧ i ≤ 67 ∧ Own wr w.heap.size v xs ∧ xs.length = 2 * i ∧ Wd xs ∧ val xs = wv (z.take i) ∧ Kp w wr) (fun _ i _ => 67 - (intOf i).toNat)
  case atStart => exact ⟨_, 0, [], rfl, rfl, by omega, o9, rfl, Wd.nil, by simp [val, wv], k9⟩
  case round =>
    clear o9 k9
    obtain ⟨v, i, xs, rfl, rfl, hi, hown, hxl, hwx, hvx, hkp⟩ := hrel
    obtain ⟨hzl, hzf, hval⟩ := HD.out
    by_cases ci : i < 67
    · have ix := idxW (wc z) i _ ci (wc_get z i (by omega))
      have hx := hzf i
      have hv2 := nat_step xs z i (z.getD i 0) (by omega) rfl hxl hvx
      have hw2 := nat_wd xs (z.getD i 0) hwx hx
      generalize z.getD i 0 = x at *
      have f1 : IntKind.u32.wrap (x : Int) = ((x % 4294967296 : Nat) : Int) := by rw [IntKind.wrap_u32]; omega
      have f2 : (x : Int) / 4294967296 = ((x / 4294967296 : Nat) : Int) := by omega
      have f3 : IntKind.u32.wrap ((x / 4294967296 : Nat) : Int) = ((x / 4294967296 : Nat) : Int) := by rw [IntKind.wrap_u32]; omega
      generalize ((x / 4294967296 : Nat) : Int) = XH at *
      generalize ((x % 4294967296 : Nat) : Int) = XL at *
      have hob := own_block hown
      have hl2 : (xs ++ [XL, XH]).length = 2 * (i + 1) := by rw [List.length_append, hxl]; simp; omega
      have hown' : wr.ownsRow w.heap.size 100 1 v xs.length (xs.map (Value.int .u32)) := hown
      have j1 : (i : Int) < 67 := by omega
      have j2 : i + 1 ≤ 67 := by omega
      have j3 : 67 - (i + 1) < 67 - i := by omega
      have j4 : xs.length + 2 ≤ 134 := by omega
      have hsz := hkp.size
      clear hxl hwx hvx hx hown hi hzl hzf hval HD
      go_wp2_with (first | (at_builtin; refine wpList_append_own _ rfl _ _ 41 rfl w.heap.size 100 i0 (.int .u32 0) 1 4 Tryz.underlying41 hi0 hi1 hi2 hi3 rfl (by decide) _ _ _ rfl (hown'.alloc _) ⟨wr.heap.size, 0, none⟩ 2 2 [.int .u32 XL, .int .u32 XH] rfl rfl ?c1 ?c2 ?c3 ?c4 ?c5 ?_))
      case c1 =>
        intro j' u hj'
        match j', hj' with
        | 0, hj' => simp at hj'; subst hj'; simp [Addr.add]
        | 1, hj' => simp at hj'; subst hj'; simp [Addr.add]
      case c2 => intro u hu; simp at hu; rcases hu with rfl | rfl <;> rfl
      case c3 => unfold maxLen; omega
      case c4 => omega
      case c5 => simp; omega
      intro v' w1 hown2 hgrow _
      have hO : Own w1 w.heap.size v' (xs ++ [XL, XH]) := Own.push2 hown2
      have hK2 : Kp w w1 := (hkp.alloc _).grown hgrow hob
      clear hown2 hgrow hown' hkp hob hsz
      go_wp2
      exact ⟨⟨_, i + 1, _, rfl, by go_num, j2, hO, hl2, hw2, hv2, hK2⟩, (show 67 - (i + 1) < 67 - i from j3)⟩
    · have hi67 : i = 67 := by omega
      have hv3 : val xs = V.natAbs := by rw [hvx, hi67, List.take_of_length_le (by omega), hval]
      have hl3 : xs.length = 134 := by omega
      have t1 : ¬ ((i : Int) < 67) := by omega
      clear hxl hvx hi hi67 ci hzl hzf hval HD
      go_wp2
      exact bodyPost_ret (v := .tuple #[.bool true, v]) (by simp [results, Tryz.results46, go_sem]) rfl ⟨v, rfl, xs, hown, hwx, hl3, hv3, hkp⟩
end Go.Proofs.YteedfmghgkmofaaGreatDoor
