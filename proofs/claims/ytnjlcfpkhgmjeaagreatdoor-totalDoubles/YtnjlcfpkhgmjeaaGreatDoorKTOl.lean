import Derived.Test.YtnjlcfpkhgmjeaaGreatDoorKTOk
import Derived.Test.YtnjlcfpkhgmjeaaGreatDoorKXP
import Derived.Test.YtnjlcfpkhgmjeaaGreatDoorKZC
import Derived.Laws.StructEq
namespace Go.Proofs.YtnjlcfpkhgmjeaaGreatDoor
open Go.RowKit

theorem all_words : ∀ (xs ys : List Nat), xs.length = ys.length → ((List.range xs.length).all fun i => xs.getD i 0 == ys.getD i 0) = (xs == ys)
  | [], [], _ => rfl
  | x :: xs, y :: ys, h => by
    have ih := all_words xs ys (by simpa using h)
    rw [List.length_cons, List.range_succ_eq_map, List.all_cons, List.all_map]
    simp only [List.getD_cons_zero, Function.comp_def, List.getD_cons_succ, ih]
    simp [List.cons_beq_cons]
  | [], _ :: _, h => by simp at h
  | _ :: _, [], h => by simp at h
theorem undU : Tryz.prog.underlying 22 = some (.int .u64) := by kernel_rfl
theorem sizU (w : World) : (sizeOf 22).run Tryz.prog w = .ok 1 w := by kernel_rfl
theorem eqIn (d : Nat) (xs ys : List Nat) (hx : xs.length = 67) (hy : ys.length = 67) (w : World) : (Op.equalIn (d + 2) 53 (.agg (wc xs)) (.agg (wc ys))).run Tryz.prog w = .ok (xs == ys) w := by
  rw [← all_words xs ys (hx.trans hy.symm), hx, List.range_eq_range', Op.equalIn]
  simp only [Sem.run_bind, run_underlying undW, Result.andThen_ok, sizU, Std.Legacy.Range.forIn_eq_forIn_range', Std.Legacy.Range.size, Nat.sub_zero, Nat.add_sub_cancel, Nat.div_one]
  have hl : ∀ i ∈ List.range' 0 67 1, i < 67 := fun i hi => by simpa using (List.mem_range'_1.1 hi).2
  generalize List.range' 0 67 1 = l at hl ⊢
  induction l with
  | nil => simp
  | cons i l ih =>
    have hi : i < 67 := hl i (by simp)
    have px : (part 22 (wc xs) (i * 1)).run Tryz.prog w = .ok (.int .u64 ((xs.getD i 0 : Nat) : Int)) w := by
      simp [part, isAgg, run_underlying undU, wc_get xs i (by omega)]
    have py : (part 22 (wc ys) (i * 1)).run Tryz.prog w = .ok (.int .u64 ((ys.getD i 0 : Nat) : Int)) w := by
      simp [part, isAgg, run_underlying undU, wc_get ys i (by omega)]
    have pe : (Op.equalIn (d + 1) 22 (.int .u64 ((xs.getD i 0 : Nat) : Int)) (.int .u64 ((ys.getD i 0 : Nat) : Int))).run Tryz.prog w = .ok (xs.getD i 0 == ys.getD i 0) w := by
      generalize xs.getD i 0 = p
      generalize ys.getD i 0 = q
      have := run_equalIn_int (P := Tryz.prog) w d 22 .u64 .u64 (p : Int) (q : Int) undU
      rw [show ((p : Int) == (q : Int)) = (p == q) from by rw [Bool.eq_iff_iff, beq_iff_eq, beq_iff_eq]; omega] at this
      exact this
    simp only [List.forIn_cons, Sem.run_bind, px, py, pe, Result.andThen_ok, List.all_cons]
    cases hb : (xs.getD i 0 == ys.getD i 0)
    · simp
    · simp only [Bool.not_true, Bool.false_eq_true, if_false, Sem.run_pure, Result.andThen_ok, Bool.true_and]
      exact ih fun j hj => hl j (by simp [hj])
theorem eqW (a b : List Nat) (ha : a.length = 67) (hb : b.length = 67) (w : World) : (binOp .eql 53 (.agg (wc a)) (.agg (wc b))).run Tryz.prog w = .ok (.bool (decide (a = b))) w := by
  rw [run_eql_struct, eqIn 9998 a b ha hb]
  simp only [Result.andThen_ok]
  congr 2
  rw [Bool.eq_iff_iff]; simp
set_option maxRecDepth 20000 in
set_option maxHeartbeats 400000 in
theorem sign_ (ws : List Nat) (V : Int) (hV : Rep ws V) (hb : V.natAbs < wh) (w : World) : Calls Tryz.prog 48 #[.agg (wc ws)] w fun e w' => e = .returned (.int .i64 (if V < 0 then -1 else if V = 0 then 0 else 1)) ∧ Kp w w' := by
  have hbl := below_ ws hV.1 hV.2.1
  have hl := hV.1
  have hz := zeroW
  have hzs : (wc (List.replicate 67 0)).size = 67 := by rw [wc_size, List.length_replicate]
  have hn0 : Bk (w.alloc (.cells (wc ws) 53)) w.heap.size (wc ws) 53 := Bk.new _ _ _
  have hld := loadW hn0 hl
  have hs := wc_size ws
  rw [hl] at hs
  by_cases c0 : V < 0
  · rw [if_pos c0]
    rw [show decide (9223372036854775808 ≤ ws.getD 66 0) = true from by simp only [decide_eq_true_eq, hV.below hb]; exact c0] at hbl
    clear hV hb c0 hz hzs
    go_enter Tryz.func48, Tryz.ntmps48
    go_upto_region 1 with fail
    refine wp_region_list ?_
    refine wpl_load rfl 53 _ rfl w.heap.size 0 rfl _ hld ?_
    go_wp2_with (first | (go_at_call 83; refine (hbl _).mono ?_; rintro e w1 ⟨rfl, g1⟩))
    exact bodyPost_ret (v := .int .i64 (-1)) (by simp [results, Tryz.results48, go_sem]) rfl ⟨rfl, ((Kp.refl w).alloc _).trans g1⟩
  · rw [if_neg c0]
    rw [show decide (9223372036854775808 ≤ ws.getD 66 0) = false from by simp only [decide_eq_false_iff_not, hV.below hb]; exact c0] at hbl
    have hq := eqW ws (List.replicate 67 0) hl List.length_replicate
    rw [show decide (ws = List.replicate 67 0) = decide (V = 0) from decide_eq_decide.2 (hV.iszero hb)] at hq
    generalize wc (List.replicate 67 0) = Z at *
    by_cases c1 : V = 0
    · rw [if_pos c1]
      rw [decide_eq_true c1] at hq
      clear hV hb c0 c1
      go_enter Tryz.func48, Tryz.ntmps48
      go_upto_region 1 with fail
      refine wp_region_list ?_
      refine wpl_load rfl 53 _ rfl w.heap.size 0 rfl _ hld ?_
      go_upto_region 3 with (first | (go_at_call 83; refine (hbl _).mono ?_; rintro e w1 ⟨rfl, g1⟩; have hld2 := loadW (hn0.kp g1) hl))
      refine wp_region_list ?_
      refine wpl_load rfl 53 _ rfl w.heap.size 0 rfl _ hld2 ?_
      go_wp2
      exact bodyPost_ret (v := .int .i64 0) (by simp [results, Tryz.results48, go_sem]) rfl ⟨rfl, ((Kp.refl w).alloc _).trans g1⟩
    · rw [if_neg c1]
      rw [decide_eq_false c1] at hq
      clear hV hb c0 c1
      go_enter Tryz.func48, Tryz.ntmps48
      go_upto_region 1 with fail
      refine wp_region_list ?_
      refine wpl_load rfl 53 _ rfl w.heap.size 0 rfl _ hld ?_
      go_upto_region 3 with (first | (go_at_call 83; refine (hbl _).mono ?_; rintro e w1 ⟨rfl, g1⟩; have hld2 := loadW (hn0.kp g1) hl))
      refine wp_region_list ?_
      refine wpl_load rfl 53 _ rfl w.heap.size 0 rfl _ hld2 ?_
      go_wp2
      exact bodyPost_ret (v := .int .i64 1) (by simp [results, Tryz.results48, go_sem]) rfl ⟨rfl, ((Kp.refl w).alloc _).trans g1⟩

def limW (s : Int) : Nat := if s = 2 then 9221120237041090561 else if 0 ≤ s then 9218868437227405312 else 18442240474082181120
set_option maxRecDepth 20000 in
set_option maxHeartbeats 400000 in
theorem infT_ (s : Int) (w : World) : Calls Tryz.prog 82 #[.int .i64 s] w fun e w' => e = .returned (.float .f64 (if 0 ≤ s then 9218868437227405312 else 18442240474082181120)) ∧ w' = w := by
  have h1 : ∀ w : World, (callFunc 24 #[.int .u64 9218868437227405312]).run Tryz.prog w = .ok (.value (.float .f64 9218868437227405312)) w := Fq.ff64 9218868437227405312
  have h2 : ∀ w : World, (callFunc 24 #[.int .u64 18442240474082181120]).run Tryz.prog w = .ok (.value (.float .f64 18442240474082181120)) w := Fq.ff64 18442240474082181120
  by_cases c : 0 ≤ s
  · rw [if_pos c]
    go_enter Tryz.func82, Tryz.ntmps82
    go_wp2
    exact bodyPost_ret (v := .float .f64 9218868437227405312) (by simp [results, Tryz.results82, go_sem]) rfl ⟨rfl, rfl⟩
  · rw [if_neg c]
    go_enter Tryz.func82, Tryz.ntmps82
    go_wp2
    exact bodyPost_ret (v := .float .f64 18442240474082181120) (by simp [results, Tryz.results82, go_sem]) rfl ⟨rfl, rfl⟩
set_option maxRecDepth 20000 in
set_option maxHeartbeats 400000 in
theorem limit_ (s : Int) (w : World) : Calls Tryz.prog 46 #[.int .i64 s] w fun e w' => e = .returned (.float .f64 (limW s)) ∧ w' = w := by
  have h1 := infT_ s
  have h2 := mnan_
  unfold limW
  by_cases c : s = 2
  · rw [if_pos c]
    subst c
    clear h1
    go_enter Tryz.func46, Tryz.ntmps46
    go_wp2_with (first | (go_at_call 52; refine (h2 _).mono ?_; rintro e w' ⟨rfl, hw'⟩; obtain rfl := hw'.symm; clear hw'))
    exact bodyPost_ret (v := .float .f64 9221120237041090561) (by simp [results, Tryz.results46, go_sem]) rfl ⟨rfl, rfl⟩
  · rw [if_neg c]
    have t : (s == 2) = false := by simpa using c
    generalize (if 0 ≤ s then 9218868437227405312 else 18442240474082181120 : Nat) = R at *
    clear c
    go_enter Tryz.func46, Tryz.ntmps46
    go_wp2_with (first | (go_at_call 82; refine (h1 _).mono ?_; rintro e w' ⟨rfl, hw'⟩; obtain rfl := hw'.symm; clear hw'))
    exact bodyPost_ret (v := .float .f64 R) (by simp [results, Tryz.results46, go_sem]) rfl ⟨rfl, rfl⟩
theorem fa0 (b : Nat) (w : World) : (Instr.fieldAt 55 (.pointer (some ⟨b, 0, none⟩)) 0).run Tryz.prog w = .ok (.pointer (some ⟨b, 0, none⟩)) w := by kernel_rfl
theorem loadS {w : World} {b : Nat} {ws : List Nat} {k : Nat} {s : Int} (h : Sb w b ws k s) : (loadVar 53 ⟨b, 0, none⟩).run Tryz.prog w = .ok (.agg (wc ws)) w := by
  have := run_loadVar_mid (P := Tryz.prog) w b 0 53 (wc ws).toList _ (fun j v hv => by
    rw [Nat.zero_add, h.2.cell]
    have hj : j < (wc ws).size := by
      have := (List.getElem?_eq_some_iff.1 hv).1
      simpa using this
    rw [Array.getElem?_append_left hj]
    simpa using hv) undW rfl (by rw [Array.length_toList, wc_size, h.1]; exact infoW)
  simpa using this
theorem round_val (d V : Int) (xs : List Int) (hl : xs.length = 134) (hw : Wd xs) (hv : val xs = V.natAbs) : ofW d (decide (V < 0)) (val xs) (-2148) = fmaW d V := by
  refine of_fma d _ _ (-2148) V (by decide) (by decide) ?_ ?_
  · have h := val_lt xs hw
    rw [hl, show (4294967296 : Nat) = 2 ^ 32 from rfl, ← Nat.pow_mul] at h
    exact Nat.le_trans ((blen_le_iff (val xs) (32 * 134)).2 h) (by decide)
  · rw [hv, show ((-2148 : Int) + 2148).toNat = 0 from rfl, Nat.pow_zero, Nat.mul_one]
    by_cases c : V < 0
    · rw [decide_eq_true c]; simp; omega
    · rw [decide_eq_false c]; simp; omega
set_option maxRecDepth 20000 in
set_option maxHeartbeats 600000 in
theorem roundF_ (d : Int) (hd1 : -9223372036854775808 ≤ d) (hd2 : d < 9223372036854775808) (b : Nat) (ws : List Nat) (V : Int) (hV : Rep ws V) (hb : V.natAbs < wh) (k : Nat) (w : World) (hS : Sb w b ws k 0) (hT : Tab w) (hQ : Fq.Tab w) : Calls Tryz.prog 18 #[.pointer (some ⟨b, 0, none⟩), .int .i64 d] w fun e w' => e = .returned (.float .f64 (fmaW d V)) ∧ Kp w w' := by
  have hnt : ∀ w : World, Calls Tryz.prog 47 #[.agg (wc ws)] w fun e w' => ∃ (v : Value) (xs : List Int), e = .returned (.tuple #[.bool (decide (V < 0)), v]) ∧ Own w' w.heap.size v xs ∧ Wd xs ∧ xs.length = 134 ∧ val xs = V.natAbs ∧ Kp w w' := fun w => by
    by_cases c : V < 0
    · rw [decide_eq_true c]; exact natN_ ws V hV hb c w
    · rw [decide_eq_false c]; exact natP_ ws V hV hb c w
  have hof : ∀ (w1 : World) (p : Option Addr) (c : Nat) (xs : List Int), Arr w1 p xs → Wd xs → xs.length = 134 → xs.length ≤ c → val xs = V.natAbs → Kp w w1 → Calls Tryz.prog 21 #[.int .i64 d, .bool (decide (V < 0)), .slice p xs.length c, .int .i64 (-2148)] w1 fun e w' => e = .returned (.float .f64 (fmaW d V)) ∧ Kp w1 w' := fun w1 p c xs hx hw hl hc hv g => by
    have := pof_ d (decide (V < 0)) p c xs (-2148) w1 (hT.grown g) (Fq.Tab.grown hQ g) hd1 hd2 hx hw (by omega) hc
    rw [round_val d V xs hl hw hv] at this
    exact this
  have c1 := hS.state
  have hld := loadS hS
  generalize fmaW d V = R at *
  generalize decide (V < 0) = ng at *
  clear hV hb hT hQ hd1 hd2
  go_enter Tryz.func18, Tryz.ntmps18
  go_upto_region 3 with fail
  refine wp_region_list ?_
  refine wpl_val rfl _ rfl ?_
  refine wpl_val rfl _ rfl ?_
  refine wpl_field rfl _ _ _ rfl _ _ rfl (fa0 b _) ?_
  refine wpl_load rfl 53 _ rfl b 0 rfl _ hld ?_
  go_wp2_with (first | (go_at_call 47; refine (hnt _).mono ?_; rintro e w1 ⟨v, xs, rfl, ho, hwx, hxl, hvx, g1⟩; obtain ⟨p, c, rfl, hx, hc⟩ := ho.arr; have hof := hof w1 p c xs hx hwx hxl hc hvx g1; clear hxl hvx hx hc hwx ho) | (go_at_call 21; refine hof.mono ?_; rintro e w2 ⟨rfl, g2⟩))
  exact bodyPost_ret (v := .float .f64 R) (by simp [results, Tryz.results18, go_sem]) rfl ⟨rfl, g1.trans g2⟩
end Go.Proofs.YtnjlcfpkhgmjeaaGreatDoor
