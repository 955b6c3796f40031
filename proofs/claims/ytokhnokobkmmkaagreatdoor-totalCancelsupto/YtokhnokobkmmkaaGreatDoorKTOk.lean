import Derived.Test.YtokhnokobkmmkaaGreatDoorKMR23
import Derived.Test.YtokhnokobkmmkaaGreatDoorKTQe
import Derived.Test.YtokhnokobkmmkaaGreatDoorKXP
import Derived.Laws.AppendOwn
import Derived.Laws.MakeOwn
import Derived.Laws.StructEq
namespace Go.Proofs.YtokhnokobkmmkaaGreatDoor
open Go.RowKit

theorem nat_step (L : List Int) (z : List Nat) (i x : Nat) (hi : i < z.length) (hx : x = z.getD i 0) (hl : L.length = 2 * i) (hv : val L = wv (z.take i)) : val (L ++ [((x % 4294967296 : Nat) : Int), ((x / 4294967296 : Nat) : Int)]) = wv (z.take (i + 1)) := by
  rw [val_append, wv_take_succ z i hi, ← hx, hl, hv]
  simp only [val, Int.toNat_natCast, Nat.mul_zero, Nat.add_zero]
  rw [Nat.pow_mul, show (4294967296 : Nat) ^ 2 = 18446744073709551616 from rfl]
  have e := Nat.mod_add_div x 4294967296
  generalize x % 4294967296 = r at *
  generalize x / 4294967296 = q at *
  rw [e, Nat.mul_comm]
theorem nat_wd (L : List Int) (x : Nat) (h : Wd L) (hx : x < 18446744073709551616) : Wd (L ++ [((x % 4294967296 : Nat) : Int), ((x / 4294967296 : Nat) : Int)]) :=
  h.append (Wd.mk ⟨by omega, by omega⟩ (Wd.mk ⟨by omega, by omega⟩ Wd.nil))
theorem Own.push2 {w : World} {base : Nat} {v : Value} {xs : List Int} {X Y : Int} (h : w.ownsRow base 110 1 v (xs.length + 2) (xs.map (Value.int .u32) ++ [.int .u32 X, .int .u32 Y])) : Own w base v (xs ++ [X, Y]) := by
  unfold Own
  rw [List.length_append, List.map_append]
  exact h
set_option maxRecDepth 20000 in
set_option maxHeartbeats 1000000 in
theorem natP_ (ws : List Nat) (V : Int) (hV : Rep ws V) (hb : V.natAbs < wh) (c0 : ¬ V < 0) (w : World) : Calls Tryz.prog 48 #[.agg (wc ws)] w fun e w' => ∃ (v : Value) (xs : List Int), e = .returned (.tuple #[.bool false, v]) ∧ Own w' w.heap.size v xs ∧ Wd xs ∧ xs.length = 134 ∧ val xs = V.natAbs ∧ Kp w w' := by
  have hbl := below_ ws hV.1 hV.2.1
  rw [show decide (9223372036854775808 ≤ ws.getD 66 0) = false from by simp only [decide_eq_false_iff_not, hV.below hb]; exact c0] at hbl
  obtain ⟨i0, hi0, hi1, hi2, hi3⟩ := inf32p
  have hmk : ∀ w : World, (Instr.makeSlice 26 (.int .i64 0) (.int .i64 134)).run Tryz.prog w = .ok (.slice (some ⟨w.heap.size, 0, none⟩) 0 134) (w.alloc (.cells (madeCells #[.int .u32 0] 134) 110)) := fun w => by
    have := run_make (P := Tryz.prog) w 26 110 i0 (.int .u32 0) Tryz.underlying26 hi0 hi1 .i64 .i64 0 134 (by decide) (by decide) (by rw [hi3]; decide) (by decide)
    rw [hi2] at this
    exact this
  have hms : (madeCells #[.int .u32 0] 134 : Array Value).size = 134 := size_madeCells _ _
  generalize (madeCells #[.int .u32 0] 134 : Array Value) = MC at *
  have hval := hV.val hb
  rw [if_neg c0] at hval
  have hval : wv ws = V.natAbs := by omega
  have HV : Hid (Rep ws V ∧ wv ws = V.natAbs) := ⟨hV, hval⟩
  have hl := hV.1
  have hs := wc_size ws
  rw [hl] at hs
  have hn0 : Bk (w.alloc (.cells (wc ws) 55)) w.heap.size (wc ws) 55 := Bk.new _ _ _
  have hld := loadW hn0 hl
  have HN : Hid (Bk (w.alloc (.cells (wc ws) 55)) w.heap.size (wc ws) 55 ∧ Kp w (w.alloc (.cells (wc ws) 55))) := ⟨hn0, (Kp.refl w).alloc _⟩
  clear hV hb c0 hval hn0
  go_enter Tryz.func48, Tryz.ntmps48
  go_upto_region 1 with fail
  refine wp_region_list ?_
  refine wpl_load rfl 55 _ rfl w.heap.size 0 rfl _ hld ?_
  go_upto_region 5 with (first | (go_at_call 77; refine (hbl _).mono ?_; rintro e w1 ⟨rfl, g1⟩))
  obtain ⟨hn0, kw0⟩ := HN.out
  obtain ⟨hV, hval⟩ := HV.out
  have hzl := hV.1
  have hzf := hV.2.1
  have k9 := kw0.trans g1
  have h9 := hn0.kp g1
  have o9 := (World.ownsRow_made (base := w.heap.size) (size := 1) (e := 110) w1 MC 134 k9.size (by decide) (by rw [hms]))
  have h9 := h9.alloc (.cells MC 110)
  have k9 := k9.alloc (.cells MC 110)
  clear hV hn0 kw0 g1 hbl hld hl hs
  generalize w1 = W1 at *
  generalize hW2 : W1.alloc (.cells MC 110) = W2 at *
  generalize W1.heap.size = gb at *
  have hldT := loadW h9 hzl
  refine wp_region_list ?_
  refine wpl_load rfl 55 _ rfl w.heap.size 0 rfl _ hldT ?_
  have HD : Hid (ws.length = 67 ∧ Wf ws ∧ wv ws = V.natAbs) := ⟨hzl, hzf, hval⟩
  clear HV HN hldT h9 hzl hzf hval hms hmk
  go_wp2
  go_loopw [3, 13] (fun vv ii wr => ∃ (v : Value) (i : Nat) (xs : List Int), v = vv ∧ ii = .int .i64 (i : Int) ∧ i ≤ 67 ∧ Own wr w.heap.size v xs ∧ xs.length = 2 * i ∧ Wd xs ∧ val xs = wv (ws.take i) ∧ Kp w wr) (fun _ i _ => 67 - (intOf i).toNat)
  case atStart => exact ⟨_, 0, [], rfl, rfl, by omega, o9, rfl, Wd.nil, by simp [val, wv], k9⟩
  case round =>
    clear o9 k9
    obtain ⟨v, i, xs, rfl, rfl, hi, hown, hxl, hwx, hvx, hkp⟩ := hrel
    obtain ⟨hzl, hzf, hval⟩ := HD.out
    by_cases ci : i < 67
    · have ix := idxW (wc ws) i _ ci (wc_get ws i (by omega))
      have hx := hzf i
      have hv2 := nat_step xs ws i (ws.getD i 0) (by omega) rfl hxl hvx
      have hw2 := nat_wd xs (ws.getD i 0) hwx hx
      generalize ws.getD i 0 = x at *
      have f1 : IntKind.u32.wrap (x : Int) = ((x % 4294967296 : Nat) : Int) := by rw [IntKind.wrap_u32]; omega
      have f2 : (x : Int) / 4294967296 = ((x / 4294967296 : Nat) : Int) := by omega
      have f3 : IntKind.u32.wrap ((x / 4294967296 : Nat) : Int) = ((x / 4294967296 : Nat) : Int) := by rw [IntKind.wrap_u32]; omega
      generalize ((x / 4294967296 : Nat) : Int) = XH at *
      generalize ((x % 4294967296 : Nat) : Int) = XL at *
      have hob := own_block hown
      have hl2 : (xs ++ [XL, XH]).length = 2 * (i + 1) := by rw [List.length_append, hxl]; simp; omega
      have hown' : wr.ownsRow w.heap.size 110 1 v xs.length (xs.map (Value.int .u32)) := hown
      have j1 : (i : Int) < 67 := by omega
      have j2 : i + 1 ≤ 67 := by omega
      have j3 : 67 - (i + 1) < 67 - i := by omega
      have j4 : xs.length + 2 ≤ 134 := by omega
      have hsz := hkp.size
      clear hxl hwx hvx hx hown hi hzl hzf hval HD
      go_wp2_with (first | (at_builtin; refine wpList_append_own _ rfl _ _ 26 rfl w.heap.size 110 i0 (.int .u32 0) 1 4 Tryz.underlying26 hi0 hi1 hi2 hi3 rfl (by decide) _ _ _ rfl (hown'.alloc _) ⟨wr.heap.size, 0, none⟩ 2 2 [.int .u32 XL, .int .u32 XH] rfl rfl ?c1 ?c2 ?c3 ?c4 ?c5 ?_))
      case c1 =>
        intro j' u hj'
        match j', hj' with
        | 0, hj' => simp at hj'; subst hj'; simp [Addr.add]
        | 1, hj' => simp at hj'; subst hj'; simp [Addr.add]
      case c2 => intro u hu; simp at hu; rcases hu with rfl | rfl <;> rfl
      case c3 => unfold maxLen; omega
      case c4 => omega
      case c5 => simp; omega
      intro v' w1 hown2 hgrow _
      have hO : Own w1 w.heap.size v' (xs ++ [XL, XH]) := Own.push2 hown2
      have hK2 : Kp w w1 := (hkp.alloc _).grown hgrow hob
      clear hown2 hgrow hown' hkp hob hsz
      go_wp2
      exact ⟨⟨_, i + 1, _, rfl, by go_num, j2, hO, hl2, hw2, hv2, hK2⟩, (show 67 - (i + 1) < 67 - i from j3)⟩
    · have hi67 : i = 67 := by omega
      have hv3 : val xs = V.natAbs := by rw [hvx, hi67, List.take_of_length_le (by omega), hval]
      have hl3 : xs.length = 134 := by omega
      have t1 : ¬ ((i : Int) < 67) := by omega
      clear hxl hvx hi hi67 ci hzl hzf hval HD
      go_wp2
      exact bodyPost_ret (v := .tuple #[.bool false, v]) (by simp [results, Tryz.results48, go_sem]) rfl ⟨v, rfl, xs, hown, hwx, hl3, hv3, hkp⟩
set_option maxRecDepth 20000 in
set_option maxHeartbeats 1000000 in
theorem natN_ (ws : List Nat) (V : Int) (hV : Rep ws V) (hb : V.natAbs < wh) (c0 : V < 0) (w : World) : Calls Tryz.prog 48 #[.agg (wc ws)] w fun e w' => ∃ (v : Value) (xs : List Int), e = .returned (.tuple #[.bool true, v]) ∧ Own w' w.heap.size v xs ∧ Wd xs ∧ xs.length = 134 ∧ val xs = V.natAbs ∧ Kp w w' := by
  have hbl := below_ ws hV.1 hV.2.1
  rw [show decide (9223372036854775808 ≤ ws.getD 66 0) = true from by simp only [decide_eq_true_eq, hV.below hb]; exact c0] at hbl
  obtain ⟨i0, hi0, hi1, hi2, hi3⟩ := inf32p
  have hmk : ∀ w : World, (Instr.makeSlice 26 (.int .i64 0) (.int .i64 134)).run Tryz.prog w = .ok (.slice (some ⟨w.heap.size, 0, none⟩) 0 134) (w.alloc (.cells (madeCells #[.int .u32 0] 134) 110)) := fun w => by
    have := run_make (P := Tryz.prog) w 26 110 i0 (.int .u32 0) Tryz.underlying26 hi0 hi1 .i64 .i64 0 134 (by decide) (by decide) (by rw [hi3]; decide) (by decide)
    rw [hi2] at this
    exact this
  have hms : (madeCells #[.int .u32 0] 134 : Array Value).size = 134 := size_madeCells _ _
  generalize (madeCells #[.int .u32 0] 134 : Array Value) = MC at *
  have htu := turned_ ws V hV
  have HV : Hid (V.natAbs < wh ∧ V < 0) := ⟨hb, c0⟩
  have hl := hV.1
  have hs := wc_size ws
  rw [hl] at hs
  have hn0 : Bk (w.alloc (.cells (wc ws) 55)) w.heap.size (wc ws) 55 := Bk.new _ _ _
  have hld := loadW hn0 hl
  have HN : Hid (Bk (w.alloc (.cells (wc ws) 55)) w.heap.size (wc ws) 55 ∧ Kp w (w.alloc (.cells (wc ws) 55))) := ⟨hn0, (Kp.refl w).alloc _⟩
  clear hV hb c0  hn0
  go_enter Tryz.func48, Tryz.ntmps48
  go_upto_region 1 with fail
  refine wp_region_list ?_
  refine wpl_load rfl 55 _ rfl w.heap.size 0 rfl _ hld ?_
  go_upto_region 3 with (first | (go_at_call 77; refine (hbl _).mono ?_; rintro e w1 ⟨rfl, g1⟩))
  obtain ⟨hn0, kw0⟩ := HN.out
  have hn1 := hn0.kp g1
  have hld3 := loadW hn1 hl
  refine wp_region_list ?_
  refine wpl_load rfl 55 _ rfl w.heap.size 0 rfl _ hld3 ?_
  go_upto_region 5 with (first | (go_at_call 46; refine (htu _).mono ?_; rintro e w2 ⟨z, rfl, hz, g2⟩; have hn2 := hn1.kp g2; have hst := putW (ws := z) hn2 (by rw [wc_size, hl]) hz.1; have hn3 := hn2.setRow (wc z); have hzs : (wc z).size = 67 := (by rw [wc_size, hz.1])))
  have kp3 : Kp w (w2.setRow w.heap.size (wc z)) := ((kw0.trans g1).trans g2).setRow (Nat.le_refl _) _
  have hval := hz.val (by rw [Int.natAbs_neg]; exact HV.out.1)
  rw [if_neg (by have := HV.out.2; omega)] at hval
  have hval : wv z = V.natAbs := by have := HV.out.2; omega
  have hzl := hz.1
  have hzf := hz.2.1
  have k9 := kp3
  have h9 := hn3
  have o9 := (World.ownsRow_made (base := w.heap.size) (size := 1) (e := 110) (w2.setRow w.heap.size (wc z)) MC 134 k9.size (by decide) (by rw [hms]))
  rw [show (w2.setRow w.heap.size (wc z)).heap.size = w2.heap.size from by simp [World.setRow]] at o9
  have h9 := h9.alloc (.cells MC 110)
  have k9 := k9.alloc (.cells MC 110)
  generalize w2.setRow w.heap.size (wc z) = W1 at *
  generalize w2.heap.size = gb at *
  clear hz hst hn2 hn3 kp3 hn1 hn0 kw0 g1 g2 hbl htu hld hld3 hl hs hzs
  generalize hW2 : W1.alloc (.cells MC 110) = W2 at *
  have hldT := loadW h9 hzl
  refine wp_region_list ?_
  refine wpl_load rfl 55 _ rfl w.heap.size 0 rfl _ hldT ?_
  have HD : Hid (z.length = 67 ∧ Wf z ∧ wv z = V.natAbs) := ⟨hzl, hzf, hval⟩
  clear HV HN hldT h9 hzl hzf hval hms hmk
  go_wp2
  go_loopw [3, 13] (fun vv ii wr => ∃ (v : Value) (i : Nat) (xs : List Int), v = vv ∧ ii = .int .i64 (i : Int) ∧ i ≤ 67 ∧ Own wr w.heap.size v xs ∧ xs.length = 2 * i ∧ Wd xs ∧ val xs = wv (z.take i) ∧ Kp w wr) (fun _ i _ => 67 - (intOf i).toNat)
  case atStart => exact ⟨_, 0, [], rfl, rfl, by omega, o9, rfl, Wd.nil, by simp [val, wv], k9⟩
  case round =>
    clear o9 k9
    obtain ⟨v, i, xs, rfl, rfl, hi, hown, hxl, hwx, hvx, hkp⟩ := hrel
    obtain ⟨hzl, hzf, hval⟩ := HD.out
    by_cases ci : i < 67
    · have ix := idxW (wc z) i _ ci (wc_get z i (by omega))
      have hx := hzf i
      have hv2 := nat_step xs z i (z.getD i 0) (by omega) rfl hxl hvx
      have hw2 := nat_wd xs (z.getD i 0) hwx hx
      generalize z.getD i 0 = x at *
      have f1 : IntKind.u32.wrap (x : Int) = ((x % 4294967296 : Nat) : Int) := by rw [IntKind.wrap_u32]; omega
      have f2 : (x : Int) / 4294967296 = ((x / 4294967296 : Nat) : Int) := by omega
      have f3 : IntKind.u32.wrap ((x / 4294967296 : Nat) : Int) = ((x / 4294967296 : Nat) : Int) := by rw [IntKind.wrap_u32]; omega
      generalize ((x / 4294967296 : Nat) : Int) = XH at *
      generalize ((x % 4294967296 : Nat) : Int) = XL at *
      have hob := own_block hown
      have hl2 : (xs ++ [XL, XH]).length = 2 * (i + 1) := by rw [List.length_append, hxl]; simp; omega
      have hown' : wr.ownsRow w.heap.size 110 1 v xs.length (xs.map (Value.int .u32)) := hown
      have j1 : (i : Int) < 67 := by omega
      have j2 : i + 1 ≤ 67 := by omega
      have j3 : 67 - (i + 1) < 67 - i := by omega
      have j4 : xs.length + 2 ≤ 134 := by omega
      have hsz := hkp.size
      clear hxl hwx hvx hx hown hi hzl hzf hval HD
      go_wp2_with (first | (at_builtin; refine wpList_append_own _ rfl _ _ 26 rfl w.heap.size 110 i0 (.int .u32 0) 1 4 Tryz.underlying26 hi0 hi1 hi2 hi3 rfl (by decide) _ _ _ rfl (hown'.alloc _) ⟨wr.heap.size, 0, none⟩ 2 2 [.int .u32 XL, .int .u32 XH] rfl rfl ?c1 ?c2 ?c3 ?c4 ?c5 ?_))
      case c1 =>
        intro j' u hj'
        match j', hj' with
        | 0, hj' => simp at hj'; subst hj'; simp [Addr.add]
        | 1, hj' => simp at hj'; subst hj'; simp [Addr.add]
      case c2 => intro u hu; simp at hu; rcases hu with rfl | rfl <;> rfl
      case c3 => unfold maxLen; omega
      case c4 => omega
      case c5 => simp; omega
      intro v' w1 hown2 hgrow _
      have hO : Own w1 w.heap.size v' (xs ++ [XL, XH]) := Own.push2 hown2
      have hK2 : Kp w w1 := (hkp.alloc _).grown hgrow hob
      clear hown2 hgrow hown' hkp hob hsz
      go_wp2
      exact ⟨⟨_, i + 1, _, rfl, by go_num, j2, hO, hl2, hw2, hv2, hK2⟩, (show 67 - (i + 1) < 67 - i from j3)⟩
    · have hi67 : i = 67 := by omega
      have hv3 : val xs = V.natAbs := by rw [hvx, hi67, List.take_of_length_le (by omega), hval]
      have hl3 : xs.length = 134 := by omega
      have t1 : ¬ ((i : Int) < 67) := by omega
      clear hxl hvx hi hi67 ci hzl hzf hval HD
      go_wp2
      exact bodyPost_ret (v := .tuple #[.bool true, v]) (by simp [results, Tryz.results48, go_sem]) rfl ⟨v, rfl, xs, hown, hwx, hl3, hv3, hkp⟩

theorem all_words : ∀ (xs ys : List Nat), xs.length = ys.length → ((List.range xs.length).all fun i => xs.getD i 0 == ys.getD i 0) = (xs == ys)
  | [], [], _ => rfl
  | x :: xs, y :: ys, h => by
    have ih := all_words xs ys (by simpa using h)
    rw [List.length_cons, List.range_succ_eq_map, List.all_cons, List.all_map]
    simp only [List.getD_cons_zero, Function.comp_def, List.getD_cons_succ, ih]
    simp [List.cons_beq_cons]
  | [], _ :: _, h => by simp at h
  | _ :: _, [], h => by simp at h
theorem undU : Tryz.prog.underlying 24 = some (.int .u64) := by kernel_rfl
theorem sizU (w : World) : (sizeOf 24).run Tryz.prog w = .ok 1 w := by kernel_rfl
theorem eqIn (d : Nat) (xs ys : List Nat) (hx : xs.length = 67) (hy : ys.length = 67) (w : World) : (Op.equalIn (d + 2) 55 (.agg (wc xs)) (.agg (wc ys))).run Tryz.prog w = .ok (xs == ys) w := by
  rw [← all_words xs ys (hx.trans hy.symm), hx, List.range_eq_range', Op.equalIn]
  simp only [Sem.run_bind, run_underlying undW, Result.andThen_ok, sizU, Std.Legacy.Range.forIn_eq_forIn_range', Std.Legacy.Range.size, Nat.sub_zero, Nat.add_sub_cancel, Nat.div_one]
  have hl : ∀ i ∈ List.range' 0 67 1, i < 67 := fun i hi => by simpa using (List.mem_range'_1.1 hi).2
  generalize List.range' 0 67 1 = l at hl ⊢
  induction l with
  | nil => simp
  | cons i l ih =>
    have hi : i < 67 := hl i (by simp)
    have px : (part 24 (wc xs) (i * 1)).run Tryz.prog w = .ok (.int .u64 ((xs.getD i 0 : Nat) : Int)) w := by
      simp [part, isAgg, run_underlying undU, wc_get xs i (by omega)]
    have py : (part 24 (wc ys) (i * 1)).run Tryz.prog w = .ok (.int .u64 ((ys.getD i 0 : Nat) : Int)) w := by
      simp [part, isAgg, run_underlying undU, wc_get ys i (by omega)]
    have pe : (Op.equalIn (d + 1) 24 (.int .u64 ((xs.getD i 0 : Nat) : Int)) (.int .u64 ((ys.getD i 0 : Nat) : Int))).run Tryz.prog w = .ok (xs.getD i 0 == ys.getD i 0) w := by
      generalize xs.getD i 0 = p
      generalize ys.getD i 0 = q
      have := run_equalIn_int (P := Tryz.prog) w d 24 .u64 .u64 (p : Int) (q : Int) undU
      rw [show ((p : Int) == (q : Int)) = (p == q) from by rw [Bool.eq_iff_iff, beq_iff_eq, beq_iff_eq]; omega] at this
      exact this
    simp only [List.forIn_cons, Sem.run_bind, px, py, pe, Result.andThen_ok, List.all_cons]
    cases hb : (xs.getD i 0 == ys.getD i 0)
    · simp
    · simp only [Bool.not_true, Bool.false_eq_true, if_false, Sem.run_pure, Result.andThen_ok, Bool.true_and]
      exact ih fun j hj => hl j (by simp [hj])
theorem eqW (a b : List Nat) (ha : a.length = 67) (hb : b.length = 67) (w : World) : (binOp .eql 55 (.agg (wc a)) (.agg (wc b))).run Tryz.prog w = .ok (.bool (decide (a = b))) w := by
  rw [run_eql_struct, eqIn 9998 a b ha hb]
  simp only [Result.andThen_ok]
  congr 2
  rw [Bool.eq_iff_iff]; simp
set_option maxRecDepth 20000 in
set_option maxHeartbeats 400000 in
theorem sign_ (ws : List Nat) (V : Int) (hV : Rep ws V) (hb : V.natAbs < wh) (w : World) : Calls Tryz.prog 50 #[.agg (wc ws)] w fun e w' => e = .returned (.int .i64 (if V < 0 then -1 else if V = 0 then 0 else 1)) ∧ Kp w w' := by
  have hbl := below_ ws hV.1 hV.2.1
  have hl := hV.1
  have hz := zeroW
  have hzs : (wc (List.replicate 67 0)).size = 67 := by rw [wc_size, List.length_replicate]
  have hn0 : Bk (w.alloc (.cells (wc ws) 55)) w.heap.size (wc ws) 55 := Bk.new _ _ _
  have hld := loadW hn0 hl
  have hs := wc_size ws
  rw [hl] at hs
  by_cases c0 : V < 0
  · rw [if_pos c0]
    rw [show decide (9223372036854775808 ≤ ws.getD 66 0) = true from by simp only [decide_eq_true_eq, hV.below hb]; exact c0] at hbl
    clear hV hb c0 hz hzs
    go_enter Tryz.func50, Tryz.ntmps50
    go_upto_region 1 with fail
    refine wp_region_list ?_
    refine wpl_load rfl 55 _ rfl w.heap.size 0 rfl _ hld ?_
    go_wp2_with (first | (go_at_call 77; refine (hbl _).mono ?_; rintro e w1 ⟨rfl, g1⟩))
    exact bodyPost_ret (v := .int .i64 (-1)) (by simp [results, Tryz.results50, go_sem]) rfl ⟨rfl, ((Kp.refl w).alloc _).trans g1⟩
  · rw [if_neg c0]
    rw [show decide (9223372036854775808 ≤ ws.getD 66 0) = false from by simp only [decide_eq_false_iff_not, hV.below hb]; exact c0] at hbl
    have hq := eqW ws (List.replicate 67 0) hl List.length_replicate
    rw [show decide (ws = List.replicate 67 0) = decide (V = 0) from decide_eq_decide.2 (hV.iszero hb)] at hq
    generalize wc (List.replicate 67 0) = Z at *
    by_cases c1 : V = 0
    · rw [if_pos c1]
      rw [decide_eq_true c1] at hq
      clear hV hb c0 c1
      go_enter Tryz.func50, Tryz.ntmps50
      go_upto_region 1 with fail
      refine wp_region_list ?_
      refine wpl_load rfl 55 _ rfl w.heap.size 0 rfl _ hld ?_
      go_upto_region 3 with (first | (go_at_call 77; refine (hbl _).mono ?_; rintro e w1 ⟨rfl, g1⟩; have hld2 := loadW (hn0.kp g1) hl))
      refine wp_region_list ?_
      refine wpl_load rfl 55 _ rfl w.heap.size 0 rfl _ hld2 ?_
      go_wp2
      exact bodyPost_ret (v := .int .i64 0) (by simp [results, Tryz.results50, go_sem]) rfl ⟨rfl, ((Kp.refl w).alloc _).trans g1⟩
    · rw [if_neg c1]
      rw [decide_eq_false c1] at hq
      clear hV hb c0 c1
      go_enter Tryz.func50, Tryz.ntmps50
      go_upto_region 1 with fail
      refine wp_region_list ?_
      refine wpl_load rfl 55 _ rfl w.heap.size 0 rfl _ hld ?_
      go_upto_region 3 with (first | (go_at_call 77; refine (hbl _).mono ?_; rintro e w1 ⟨rfl, g1⟩; have hld2 := loadW (hn0.kp g1) hl))
      refine wp_region_list ?_
      refine wpl_load rfl 55 _ rfl w.heap.size 0 rfl _ hld2 ?_
      go_wp2
      exact bodyPost_ret (v := .int .i64 1) (by simp [results, Tryz.results50, go_sem]) rfl ⟨rfl, ((Kp.refl w).alloc _).trans g1⟩
def fmaW (d V : Int) : Nat := if V = 0 then 0 else mdW (decide (V < 0)) (finU 53 2098 9218868437227405311 9218868437227405312 (dirN (decide (V < 0)) d) (rV (dirN (decide (V < 0)) d) 53 V.natAbs 1 (-1074)))
theorem mul_fma (d V : Int) (ng : Bool) (P : Nat) (hP : V.natAbs = P) (hng : V ≠ 0 → ng = decide (V < 0)) : mulW d ng P = fmaW d V := by
  unfold mulW fmaW
  by_cases c : V = 0
  · rw [if_pos c, if_pos (by rw [← hP, c]; rfl)]
  · rw [if_neg c, if_neg (by omega), hng c, hP]
theorem of_fma (d : Int) (ng : Bool) (c : Nat) (low V : Int) (h1 : -2148 ≤ low) (h2 : low ≤ 8192) (hb : blen c ≤ 524288) (hV : V = if ng then -((c * 2 ^ (low + 2148).toNat : Nat) : Int) else ((c * 2 ^ (low + 2148).toNat : Nat) : Int)) : ofW d ng c low = fmaW d V := by
  obtain ⟨k, hk⟩ : ∃ k, k = (low + 2148).toNat := ⟨_, rfl⟩
  rw [← hk] at hV
  rw [of_mul d ng c low (c * 2 ^ k) h1 h2 hb (by rw [hk])]
  obtain ⟨C, hC⟩ : ∃ C, C = c * 2 ^ k := ⟨_, rfl⟩
  rw [← hC] at hV ⊢
  refine mul_fma d V ng _ ?_ ?_
  · rw [hV]; cases ng <;> simp
  · intro hv
    rw [hV] at hv ⊢
    cases ng
    · simp
    · simp at hv ⊢; omega
def limW (s : Int) : Nat := if s = 2 then 9221120237041090561 else if 0 ≤ s then 9218868437227405312 else 18442240474082181120
set_option maxRecDepth 20000 in
set_option maxHeartbeats 400000 in
theorem infT_ (s : Int) (w : World) : Calls Tryz.prog 76 #[.int .i64 s] w fun e w' => e = .returned (.float .f64 (if 0 ≤ s then 9218868437227405312 else 18442240474082181120)) ∧ w' = w := by
  have h1 : ∀ w : World, (callFunc 44 #[.int .u64 9218868437227405312]).run Tryz.prog w = .ok (.value (.float .f64 9218868437227405312)) w := Fq.ff64 9218868437227405312
  have h2 : ∀ w : World, (callFunc 44 #[.int .u64 18442240474082181120]).run Tryz.prog w = .ok (.value (.float .f64 18442240474082181120)) w := Fq.ff64 18442240474082181120
  by_cases c : 0 ≤ s
  · rw [if_pos c]
    go_enter Tryz.func76, Tryz.ntmps76
    go_wp2
    exact bodyPost_ret (v := .float .f64 9218868437227405312) (by simp [results, Tryz.results76, go_sem]) rfl ⟨rfl, rfl⟩
  · rw [if_neg c]
    go_enter Tryz.func76, Tryz.ntmps76
    go_wp2
    exact bodyPost_ret (v := .float .f64 18442240474082181120) (by simp [results, Tryz.results76, go_sem]) rfl ⟨rfl, rfl⟩
set_option maxRecDepth 20000 in
set_option maxHeartbeats 400000 in
theorem limit_ (s : Int) (w : World) : Calls Tryz.prog 47 #[.int .i64 s] w fun e w' => e = .returned (.float .f64 (limW s)) ∧ w' = w := by
  have h1 := infT_ s
  have h2 := mnan_
  unfold limW
  by_cases c : s = 2
  · rw [if_pos c]
    subst c
    clear h1
    go_enter Tryz.func47, Tryz.ntmps47
    go_wp2_with (first | (go_at_call 63; refine (h2 _).mono ?_; rintro e w' ⟨rfl, hw'⟩; obtain rfl := hw'.symm; clear hw'))
    exact bodyPost_ret (v := .float .f64 9221120237041090561) (by simp [results, Tryz.results47, go_sem]) rfl ⟨rfl, rfl⟩
  · rw [if_neg c]
    have t : (s == 2) = false := by simpa using c
    generalize (if 0 ≤ s then 9218868437227405312 else 18442240474082181120 : Nat) = R at *
    clear c
    go_enter Tryz.func47, Tryz.ntmps47
    go_wp2_with (first | (go_at_call 76; refine (h1 _).mono ?_; rintro e w' ⟨rfl, hw'⟩; obtain rfl := hw'.symm; clear hw'))
    exact bodyPost_ret (v := .float .f64 R) (by simp [results, Tryz.results47, go_sem]) rfl ⟨rfl, rfl⟩
theorem fa0 (b : Nat) (w : World) : (Instr.fieldAt 57 (.pointer (some ⟨b, 0, none⟩)) 0).run Tryz.prog w = .ok (.pointer (some ⟨b, 0, none⟩)) w := by kernel_rfl
theorem loadS {w : World} {b : Nat} {ws : List Nat} {k : Nat} {s : Int} (h : Sb w b ws k s) : (loadVar 55 ⟨b, 0, none⟩).run Tryz.prog w = .ok (.agg (wc ws)) w := by
  have := run_loadVar_mid (P := Tryz.prog) w b 0 55 (wc ws).toList _ (fun j v hv => by
    rw [Nat.zero_add, h.2.cell]
    have hj : j < (wc ws).size := by
      have := (List.getElem?_eq_some_iff.1 hv).1
      simpa using this
    rw [Array.getElem?_append_left hj]
    simpa using hv) undW rfl (by rw [Array.length_toList, wc_size, h.1]; exact infoW)
  simpa using this
theorem round_val (d V : Int) (xs : List Int) (hl : xs.length = 134) (hw : Wd xs) (hv : val xs = V.natAbs) : ofW d (decide (V < 0)) (val xs) (-2148) = fmaW d V := by
  refine of_fma d _ _ (-2148) V (by decide) (by decide) ?_ ?_
  · have h := val_lt xs hw
    rw [hl, show (4294967296 : Nat) = 2 ^ 32 from rfl, ← Nat.pow_mul] at h
    exact Nat.le_trans ((blen_le_iff (val xs) (32 * 134)).2 h) (by decide)
  · rw [hv, show ((-2148 : Int) + 2148).toNat = 0 from rfl, Nat.pow_zero, Nat.mul_one]
    by_cases c : V < 0
    · rw [decide_eq_true c]; simp; omega
    · rw [decide_eq_false c]; simp; omega
set_option maxRecDepth 20000 in
set_option maxHeartbeats 600000 in
theorem roundF_ (d : Int) (hd1 : -9223372036854775808 ≤ d) (hd2 : d < 9223372036854775808) (b : Nat) (ws : List Nat) (V : Int) (hV : Rep ws V) (hb : V.natAbs < wh) (k : Nat) (w : World) (hS : Sb w b ws k 0) (hT : Tab w) (hQ : Fq.Tab w) : Calls Tryz.prog 22 #[.pointer (some ⟨b, 0, none⟩), .int .i64 d] w fun e w' => e = .returned (.float .f64 (fmaW d V)) ∧ Kp w w' := by
  have hnt : ∀ w : World, Calls Tryz.prog 48 #[.agg (wc ws)] w fun e w' => ∃ (v : Value) (xs : List Int), e = .returned (.tuple #[.bool (decide (V < 0)), v]) ∧ Own w' w.heap.size v xs ∧ Wd xs ∧ xs.length = 134 ∧ val xs = V.natAbs ∧ Kp w w' := fun w => by
    by_cases c : V < 0
    · rw [decide_eq_true c]; exact natN_ ws V hV hb c w
    · rw [decide_eq_false c]; exact natP_ ws V hV hb c w
  have hof : ∀ (w1 : World) (p : Option Addr) (c : Nat) (xs : List Int), Arr w1 p xs → Wd xs → xs.length = 134 → xs.length ≤ c → val xs = V.natAbs → Kp w w1 → Calls Tryz.prog 49 #[.int .i64 d, .bool (decide (V < 0)), .slice p xs.length c, .int .i64 (-2148)] w1 fun e w' => e = .returned (.float .f64 (fmaW d V)) ∧ Kp w1 w' := fun w1 p c xs hx hw hl hc hv g => by
    have := pof_ d (decide (V < 0)) p c xs (-2148) w1 (hT.grown g) (Fq.Tab.grown hQ g) hd1 hd2 hx hw (by omega) hc
    rw [round_val d V xs hl hw hv] at this
    exact this
  have c1 := hS.state
  have hld := loadS hS
  generalize fmaW d V = R at *
  generalize decide (V < 0) = ng at *
  clear hV hb hT hQ hd1 hd2
  go_enter Tryz.func22, Tryz.ntmps22
  go_upto_region 3 with fail
  refine wp_region_list ?_
  refine wpl_val rfl _ rfl ?_
  refine wpl_val rfl _ rfl ?_
  refine wpl_field rfl _ _ _ rfl _ _ rfl (fa0 b _) ?_
  refine wpl_load rfl 55 _ rfl b 0 rfl _ hld ?_
  go_wp2_with (first | (go_at_call 48; refine (hnt _).mono ?_; rintro e w1 ⟨v, xs, rfl, ho, hwx, hxl, hvx, g1⟩; obtain ⟨p, c, rfl, hx, hc⟩ := ho.arr; have hof := hof w1 p c xs hx hwx hxl hc hvx g1; clear hxl hvx hx hc hwx ho) | (go_at_call 49; refine hof.mono ?_; rintro e w2 ⟨rfl, g2⟩))
  exact bodyPost_ret (v := .float .f64 R) (by simp [results, Tryz.results22, go_sem]) rfl ⟨rfl, g1.trans g2⟩

theorem Dv.up {a j E U : Nat} (h : Dv a j E U) (t : Nat) : Dv a j (E + t) (U * 2 ^ t) := by
  obtain ⟨h1, h2, h3⟩ := h
  refine ⟨by omega, h2, ?_⟩
  rw [← h3, Nat.mul_assoc, ← Nat.pow_add]; congr 2; omega
theorem Dy.up {base : Nat} {w : World} {s1 : Bool} {p1 : Option Addr} {l1 c1 : Nat} {q1 : Option Addr} {k1 d1 : Nat} {V : Int} {E : Nat} (h : Dy base w s1 p1 l1 c1 q1 k1 d1 V E) (t : Nat) : Dy base w s1 p1 l1 c1 q1 k1 d1 (V * ((2 ^ t : Nat) : Int)) (E + t) := by
  obtain ⟨a, j, h1, h2, h3, h4⟩ := h
  have hp := Nat.two_pow_pos t
  refine ⟨a, j, h1, h2, ?_, fun h => ?_⟩
  · rw [Int.natAbs_mul, Int.natAbs_natCast]; exact h3.up t
  · have hv : V ≠ 0 := fun z => h (by rw [z, Int.zero_mul])
    rw [h4 hv]
    have := (sgn_mul V ((2 ^ t : Nat) : Int) (by omega)).1
    simp only [decide_eq_decide]; exact this
theorem fracO_self (a b : Nat) (h : b ≠ 0) : FracOf a b 0 a b := ⟨h, Iff.rfl, fun d p t _ => by rw [Int.add_zero], by omega, by omega⟩
theorem dybits_ (d : Int) (s1 : Bool) (p1 : Option Addr) (l1 c1 : Nat) (q1 : Option Addr) (k1 d1 : Nat) (V : Int) (E K B : Nat) (hK : K = 1074) (hE : E = K + K) (hB : B ≤ 60000) (hV : V.natAbs < 2 ^ B) (b1 : Nat) (w : World) (h1 : Dy b1 w s1 p1 l1 c1 q1 k1 d1 V E) : Calls Tryz.prog 29 #[.int .i64 d, .agg #[.bool s1, .slice p1 l1 c1, .slice q1 k1 d1]] w fun e w' => e = .returned (.int .u64 ((fmaW d V : Nat) : Int)) ∧ Kp w w' := by
  obtain ⟨a, j, o1, o2, f1, g1⟩ := h1
  have hz : (2 : Nat) ^ j ≠ 0 := Nat.ne_of_gt (Nat.two_pow_pos _)
  have ha := f1.lt B hV
  have hr := rbits_ d s1 _ _ a (2 ^ j) w o1.ls o2.ls hz (Nat.le_trans ((blen_le_iff a B).2 ha) (by omega)) (Nat.le_trans ((blen_le_iff (2 ^ j) (j + 1)).2 (Nat.pow_lt_pow_right (by decide) (by omega))) (by have := f1.1; omega))
  have hx : a * 2 ^ (K + K) = V.natAbs * 2 ^ j := by
    rw [← f1.2.2, Nat.mul_assoc, ← Nat.pow_add, ← hE]; congr 2; have := f1.1; omega
  have e1 := ref_mul d s1 s1 a (2 ^ j) a (2 ^ j) V.natAbs K hK hz (fracO_self _ _ hz) (fun _ => rfl) hx
  rw [e1, mul_fma d V s1 V.natAbs rfl g1] at hr
  exact hr
theorem dyfrom_ (n : Bool) (m K : Nat) (hK : K = 1074) (hm : m < 9218868437227405312) (w : World) : Calls Tryz.prog 57 #[.int .u64 ((Fq.wD n m : Nat) : Int)] w fun e w' => ∃ (s3 : Bool) (p3 : Option Addr) (l3 c3 : Nat) (q3 : Option Addr) (k3 d3 : Nat), e = .returned (.agg #[.bool s3, .slice p3 l3 c3, .slice q3 k3 d3]) ∧ Dy w.heap.size w' s3 p3 l3 c3 q3 k3 d3 (Iv n m) (K) ∧ Kp w w' := by
  have h := fromBitsX_ n m hm w
  refine Calls.mono (show Calls Tryz.prog 57 #[.int .u64 ((Fq.wD n m : Nat) : Int)] w _ from h) ?_
  rintro e w' ⟨vn, vd, a, b, ng, rfl, u1, u2, ⟨u3, u4⟩, g⟩
  obtain ⟨v1, v2, v3, v4, v5⟩ := Fq.vlsgD m hm
  have v1 : Fq.sgD m * 2 ^ (Fq.epD m + 1074).toNat = Fq.vV Ieee.double m := v1
  have u3 : FracX (Fq.sgD m) 1 (Fq.epD m) a b := u3
  have u4 : Fq.sgD m ≠ 0 → ng = n := u4
  obtain ⟨p3, c3, rfl, -, -⟩ := u1.arr
  obtain ⟨q3, d3, rfl, -, -⟩ := u2.arr
  have ab : (Iv n m).natAbs = Fq.vV Ieee.double m := by unfold Iv; cases n <;> simp
  by_cases z : Fq.sgD m = 0
  · obtain ⟨z1, z2⟩ := u3.2.1 z
    have z3 : Fq.vV Ieee.double m = 0 := by rw [← v1, z, Nat.zero_mul]
    have z4 : Iv n m = 0 := by omega
    subst z2
    refine ⟨ng, p3, _, c3, q3, _, d3, rfl, ⟨a, 0, u1, u2, ⟨Nat.zero_le _, Or.inr rfl, ?_⟩, fun h => absurd z4 h⟩, g⟩
    rw [z1, Nat.zero_mul, ab, z3]
  · obtain ⟨oa, ob, ka, kb, x, y, g1, g2, g3, g4, g5, g6, g7, g8⟩ := u3.2.2 z
    obtain ⟨r1, r2⟩ := odd_one ob 0 kb g2 g4
    subst r1 r2
    rw [Nat.one_mul] at g6
    subst g6
    have hs : Iv n m ≠ 0 → ng = decide (Iv n m < 0) := fun h => by
      rw [u4 z]
      unfold Iv at h ⊢
      cases n
      · simp
      · simp at h ⊢; omega
    rw [g3] at v1
    refine ⟨ng, p3, _, c3, q3, _, d3, rfl, ⟨a, y, u1, u2, ?_, hs⟩, g⟩
    rw [ab, ← v1, g5]
    rcases g7 with q | q
    · subst q
      refine ⟨by omega, Or.inl (by rw [Nat.pow_zero, Nat.mul_one]; exact g1), ?_⟩
      rw [Nat.pow_zero, Nat.mul_one, Nat.mul_assoc, ← Nat.pow_add]; congr 2; omega
    · subst q
      refine ⟨Nat.zero_le _, Or.inr rfl, ?_⟩
      rw [Nat.mul_assoc, Nat.mul_assoc, ← Nat.pow_add, ← Nat.pow_add]; congr 2; omega
theorem dymul_ (s1 : Bool) (p1 : Option Addr) (l1 c1 : Nat) (q1 : Option Addr) (k1 d1 : Nat) (s2 : Bool) (p2 : Option Addr) (l2 c2 : Nat) (q2 : Option Addr) (k2 d2 : Nat) (V1 V2 : Int) (E B : Nat) (hB : B ≤ 30000) (hE : E ≤ 30000) (hV1 : V1.natAbs < 2 ^ B) (hV2 : V2.natAbs < 2 ^ B) (b1 b2 : Nat) (w : World) (h1 : Dy b1 w s1 p1 l1 c1 q1 k1 d1 V1 E) (h2 : Dy b2 w s2 p2 l2 c2 q2 k2 d2 V2 E) : Calls Tryz.prog 56 #[.agg #[.bool s1, .slice p1 l1 c1, .slice q1 k1 d1], .agg #[.bool s2, .slice p2 l2 c2, .slice q2 k2 d2]] w fun e w' => ∃ (s3 : Bool) (p3 : Option Addr) (l3 c3 : Nat) (q3 : Option Addr) (k3 d3 : Nat), e = .returned (.agg #[.bool s3, .slice p3 l3 c3, .slice q3 k3 d3]) ∧ Dy w.heap.size w' s3 p3 l3 c3 q3 k3 d3 (V1 * V2) (E + E) ∧ Kp w w' := by
  obtain ⟨a1, j1, o1, o2, f1, g1⟩ := h1
  obtain ⟨a2, j2, o3, o4, f2, g2⟩ := h2
  obtain ⟨P1, C1, e1, r1, t1⟩ := o1.arr
  obtain ⟨P2, C2, e2, r2, t2⟩ := o2.arr
  obtain ⟨P3, C3, e3, r3, t3⟩ := o3.arr
  obtain ⟨P4, C4, e4, r4, t4⟩ := o4.arr
  injection e1 with x1 x2 x3; subst x1 x2 x3
  injection e2 with x1 x2 x3; subst x1 x2 x3
  injection e3 with x1 x2 x3; subst x1 x2 x3
  injection e4 with x1 x2 x3; subst x1 x2 x3
  have A1 := f1.lt B hV1
  have A2 := f2.lt B hV2
  have J1 := f1.1
  have J2 := f2.1
  have L1 : len32 a1 ≤ 4000 := len_b _ _ B A1 (by omega)
  have L2 : len32 a2 ≤ 4000 := len_b _ _ B A2 (by omega)
  have L3 : len32 (2 ^ j1) ≤ 4000 := len_b _ _ (j1 + 1) (Nat.pow_lt_pow_right (by decide) (by omega)) (by omega)
  have L4 : len32 (2 ^ j2) ≤ 4000 := len_b _ _ (j2 + 1) (Nat.pow_lt_pow_right (by decide) (by omega)) (by omega)
  have X3 : len32 (a1 * a2) ≤ 16000 := len_b _ _ (B + B) (by rw [Nat.pow_add]; exact Nat.mul_lt_mul'' A1 A2) (by omega)
  have X5 : len32 (2 ^ j1 * 2 ^ j2) ≤ 16000 := len_b _ _ (j1 + j2 + 1) (by rw [← Nat.pow_add]; exact Nat.pow_lt_pow_right (by decide) (by omega)) (by omega)
  have Z1 : (2 : Nat) ^ j1 ≠ 0 := Nat.ne_of_gt (Nat.two_pow_pos _)
  have Z2 : (2 : Nat) ^ j2 ≠ 0 := Nat.ne_of_gt (Nat.two_pow_pos _)
  have D9 : (2 : Nat) ^ j1 * 2 ^ j2 = 2 ^ (j1 + j2) := (Nat.pow_add 2 j1 j2).symm
  refine (rmulX_ s1 s2 a1 (2 ^ j1) a2 (2 ^ j2) p1 q1 p2 q2 c1 d1 c2 d2 w r1 t1 r2 t2 r3 t3 r4 t4 L1 L3 L2 L4 Z1 Z2 _ _ rfl rfl X3 X5).mono ?_
  rintro e w' ⟨vn, vd, a', b', ng, rfl, u1, u2, ⟨u3, u4⟩, g⟩
  rw [D9] at u3
  have hX : a1 * a2 * 2 ^ (E + E) = (V1 * V2).natAbs * 2 ^ (j1 + j2) := by
    rw [Int.natAbs_mul, ← f1.2.2, ← f2.2.2, show a1 * 2 ^ (E - j1) * (a2 * 2 ^ (E - j2)) = a1 * a2 * (2 ^ (E - j1) * 2 ^ (E - j2)) from Nat.mul_mul_mul_comm _ _ _ _, ← Nat.pow_add, Nat.mul_assoc (a1 * a2) (2 ^ (E - j1 + (E - j2))), ← Nat.pow_add]; congr 2; omega
  obtain ⟨j, rfl, u5⟩ := dy_frac _ (j1 + j2) (E + E) _ a' b' u3 hX
  obtain ⟨p3, c3, rfl, -, -⟩ := u1.arr
  obtain ⟨q3, d3, rfl, -, -⟩ := u2.arr
  refine ⟨ng, p3, _, c3, q3, _, d3, rfl, ⟨a', j, u1, u2, u5, fun h => ?_⟩, g⟩
  have hv1 : V1 ≠ 0 := fun z => h (by rw [z, Int.zero_mul])
  have hv2 : V2 ≠ 0 := fun z => h (by rw [z, Int.mul_zero])
  rw [u4 (fun z => ?_), g1 hv1, g2 hv2]
  · by_cases y1 : V1 < 0
    · by_cases y2 : V2 < 0
      · have := Int.mul_pos_of_neg_of_neg y1 y2
        rw [decide_eq_true y1, decide_eq_true y2, decide_eq_false (by omega)]; rfl
      · have := Int.mul_neg_of_neg_of_pos y1 (show 0 < V2 by omega)
        rw [decide_eq_true y1, decide_eq_false y2, decide_eq_true this]; rfl
    · by_cases y2 : V2 < 0
      · have := Int.mul_neg_of_pos_of_neg (show 0 < V1 by omega) y2
        rw [decide_eq_false y1, decide_eq_true y2, decide_eq_true this]; rfl
      · have := Int.mul_pos (show 0 < V1 by omega) (show 0 < V2 by omega)
        rw [decide_eq_false y1, decide_eq_false y2, decide_eq_false (by omega)]; rfl
  · rcases Nat.mul_eq_zero.1 z with q | q
    · have := f1.2.2; rw [q, Nat.zero_mul] at this; omega
    · have := f2.2.2; rw [q, Nat.zero_mul] at this; omega
end Go.Proofs.YtokhnokobkmmkaaGreatDoor
