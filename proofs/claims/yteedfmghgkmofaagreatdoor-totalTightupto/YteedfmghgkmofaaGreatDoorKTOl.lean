import Derived.Test.YteedfmghgkmofaaGreatDoorKMR23
import Derived.Test.YteedfmghgkmofaaGreatDoorKTOk
import Derived.Test.YteedfmghgkmofaaGreatDoorKXP
import Derived.Laws.StructEq
import Derived.Lib.Mul64
namespace Go.Proofs.YteedfmghgkmofaaGreatDoor
open Go.RowKit

theorem all_words : ∀ (xs ys : List Nat), xs.length = ys.length → ((List.range xs.length).all fun i => xs.getD i 0 == ys.getD i 0) = (xs == ys)
  | [], [], _ => rfl
  | x :: xs, y :: ys, h => by
    have ih := all_words xs ys (by simpa using h)
    rw [List.length_cons, List.range_succ_eq_map, List.all_cons, List.all_map]
    simp only [List.getD_cons_zero, Function.comp_def, List.getD_cons_succ, ih]
    simp [List.cons_beq_cons]
  | [], _ :: _, h => by simp at h
  | _ :: _, [], h => by simp at h
theorem undU : Tryz.prog.underlying 25 = some (.int .u64) := by kernel_rfl
theorem sizU (w : World) : (sizeOf 25).run Tryz.prog w = .ok 1 w := by kernel_rfl
theorem eqIn (d : Nat) (xs ys : List Nat) (hx : xs.length = 67) (hy : ys.length = 67) (w : World) : (Op.equalIn (d + 2) 52 (.agg (wc xs)) (.agg (wc ys))).run Tryz.prog w = .ok (xs == ys) w := by
  rw [← all_words xs ys (hx.trans hy.symm), hx, List.range_eq_range', Op.equalIn]
  simp only [Sem.run_bind, run_underlying undW, Result.andThen_ok, sizU, Std.Legacy.Range.forIn_eq_forIn_range', Std.Legacy.Range.size, Nat.sub_zero, Nat.add_sub_cancel, Nat.div_one]
  have hl : ∀ i ∈ List.range' 0 67 1, i < 67 := fun i hi => by simpa using (List.mem_range'_1.1 hi).2
  generalize List.range' 0 67 1 = l at hl ⊢
  induction l with
  | nil => simp
  | cons i l ih =>
    have hi : i < 67 := hl i (by simp)
    have px : (part 25 (wc xs) (i * 1)).run Tryz.prog w = .ok (.int .u64 ((xs.getD i 0 : Nat) : Int)) w := by
      simp [part, isAgg, run_underlying undU, wc_get xs i (by omega)]
    have py : (part 25 (wc ys) (i * 1)).run Tryz.prog w = .ok (.int .u64 ((ys.getD i 0 : Nat) : Int)) w := by
      simp [part, isAgg, run_underlying undU, wc_get ys i (by omega)]
    have pe : (Op.equalIn (d + 1) 25 (.int .u64 ((xs.getD i 0 : Nat) : Int)) (.int .u64 ((ys.getD i 0 : Nat) : Int))).run Tryz.prog w = .ok (xs.getD i 0 == ys.getD i 0) w := by
      generalize xs.getD i 0 = p
      generalize ys.getD i 0 = q
      have := run_equalIn_int (P := Tryz.prog) w d 25 .u64 .u64 (p : Int) (q : Int) undU
      rw [show ((p : Int) == (q : Int)) = (p == q) from by rw [Bool.eq_iff_iff, beq_iff_eq, beq_iff_eq]; omega] at this
      exact this
    simp only [List.forIn_cons, Sem.run_bind, px, py, pe, Result.andThen_ok, List.all_cons]
    cases hb : (xs.getD i 0 == ys.getD i 0)
    · simp
    · simp only [Bool.not_true, Bool.false_eq_true, if_false, Sem.run_pure, Result.andThen_ok, Bool.true_and]
      exact ih fun j hj => hl j (by simp [hj])
theorem eqW (a b : List Nat) (ha : a.length = 67) (hb : b.length = 67) (w : World) : (binOp .eql 52 (.agg (wc a)) (.agg (wc b))).run Tryz.prog w = .ok (.bool (decide (a = b))) w := by
  rw [run_eql_struct, eqIn 9998 a b ha hb]
  simp only [Result.andThen_ok]
  congr 2
  rw [Bool.eq_iff_iff]; simp
set_option maxRecDepth 20000 in
set_option maxHeartbeats 400000 in
theorem sign_ (ws : List Nat) (V : Int) (hV : Rep ws V) (hb : V.natAbs < wh) (w : World) : Calls Tryz.prog 48 #[.agg (wc ws)] w fun e w' => e = .returned (.int .i64 (if V < 0 then -1 else if V = 0 then 0 else 1)) ∧ Kp w w' := by
  have hbl := below_ ws hV.1 hV.2.1
  have hl := hV.1
  have hz := zeroW
  have hzs : (wc (List.replicate 67 0)).size = 67 := by rw [wc_size, List.length_replicate]
  have hn0 : Bk (w.alloc (.cells (wc ws) 52)) w.heap.size (wc ws) 52 := Bk.new _ _ _
  have hld := loadW hn0 hl
  have hs := wc_size ws
  rw [hl] at hs
  by_cases c0 : V < 0
  · rw [if_pos c0]
    rw [show decide (9223372036854775808 ≤ ws.getD 66 0) = true from by simp only [decide_eq_true_eq, hV.below hb]; exact c0] at hbl
    clear hV hb c0 hz hzs
    go_enter Tryz.func48, Tryz.ntmps48
    go_upto_region 1 with fail
    refine wp_region_list ?_
    refine wpl_load rfl 52 _ rfl w.heap.size 0 rfl _ hld ?_
    go_wp2_with (first | (go_at_call 81; refine (hbl _).mono ?_; rintro e w1 ⟨rfl, g1⟩))
    exact bodyPost_ret (v := .int .i64 (-1)) (by simp [results, Tryz.results48, go_sem]) rfl ⟨rfl, ((Kp.refl w).alloc _).trans g1⟩
  · rw [if_neg c0]
    rw [show decide (9223372036854775808 ≤ ws.getD 66 0) = false from by simp only [decide_eq_false_iff_not, hV.below hb]; exact c0] at hbl
    have hq := eqW ws (List.replicate 67 0) hl List.length_replicate
    rw [show decide (ws = List.replicate 67 0) = decide (V = 0) from decide_eq_decide.2 (hV.iszero hb)] at hq
    generalize wc (List.replicate 67 0) = Z at *
    by_cases c1 : V = 0
    · rw [if_pos c1]
      rw [decide_eq_true c1] at hq
      clear hV hb c0 c1
      go_enter Tryz.func48, Tryz.ntmps48
      go_upto_region 1 with fail
      refine wp_region_list ?_
      refine wpl_load rfl 52 _ rfl w.heap.size 0 rfl _ hld ?_
      go_upto_region 3 with (first | (go_at_call 81; refine (hbl _).mono ?_; rintro e w1 ⟨rfl, g1⟩; have hld2 := loadW (hn0.kp g1) hl))
      refine wp_region_list ?_
      refine wpl_load rfl 52 _ rfl w.heap.size 0 rfl _ hld2 ?_
      go_wp2
      exact bodyPost_ret (v := .int .i64 0) (by simp [results, Tryz.results48, go_sem]) rfl ⟨rfl, ((Kp.refl w).alloc _).trans g1⟩
    · rw [if_neg c1]
      rw [decide_eq_false c1] at hq
      clear hV hb c0 c1
      go_enter Tryz.func48, Tryz.ntmps48
      go_upto_region 1 with fail
      refine wp_region_list ?_
      refine wpl_load rfl 52 _ rfl w.heap.size 0 rfl _ hld ?_
      go_upto_region 3 with (first | (go_at_call 81; refine (hbl _).mono ?_; rintro e w1 ⟨rfl, g1⟩; have hld2 := loadW (hn0.kp g1) hl))
      refine wp_region_list ?_
      refine wpl_load rfl 52 _ rfl w.heap.size 0 rfl _ hld2 ?_
      go_wp2
      exact bodyPost_ret (v := .int .i64 1) (by simp [results, Tryz.results48, go_sem]) rfl ⟨rfl, ((Kp.refl w).alloc _).trans g1⟩
def fmaW (d V : Int) : Nat := if V = 0 then 0 else mdW (decide (V < 0)) (finU 53 2098 9218868437227405311 9218868437227405312 (dirN (decide (V < 0)) d) (rV (dirN (decide (V < 0)) d) 53 V.natAbs 1 (-1074)))
theorem mul_fma (d V : Int) (ng : Bool) (P : Nat) (hP : V.natAbs = P) (hng : V ≠ 0 → ng = decide (V < 0)) : mulW d ng P = fmaW d V := by
  unfold mulW fmaW
  by_cases c : V = 0
  · rw [if_pos c, if_pos (by rw [← hP, c]; rfl)]
  · rw [if_neg c, if_neg (by omega), hng c, hP]
theorem of_fma (d : Int) (ng : Bool) (c : Nat) (low V : Int) (h1 : -2148 ≤ low) (h2 : low ≤ 8192) (hb : blen c ≤ 524288) (hV : V = if ng then -((c * 2 ^ (low + 2148).toNat : Nat) : Int) else ((c * 2 ^ (low + 2148).toNat : Nat) : Int)) : ofW d ng c low = fmaW d V := by
  obtain ⟨k, hk⟩ : ∃ k, k = (low + 2148).toNat := ⟨_, rfl⟩
  rw [← hk] at hV
  rw [of_mul d ng c low (c * 2 ^ k) h1 h2 hb (by rw [hk])]
  obtain ⟨C, hC⟩ : ∃ C, C = c * 2 ^ k := ⟨_, rfl⟩
  rw [← hC] at hV ⊢
  refine mul_fma d V ng _ ?_ ?_
  · rw [hV]; cases ng <;> simp
  · intro hv
    rw [hV] at hv ⊢
    cases ng
    · simp
    · simp at hv ⊢; omega
def limW (s : Int) : Nat := if s = 2 then 9221120237041090561 else if 0 ≤ s then 9218868437227405312 else 18442240474082181120
set_option maxRecDepth 20000 in
set_option maxHeartbeats 400000 in
theorem infT_ (s : Int) (w : World) : Calls Tryz.prog 80 #[.int .i64 s] w fun e w' => e = .returned (.float .f64 (if 0 ≤ s then 9218868437227405312 else 18442240474082181120)) ∧ w' = w := by
  have h1 : ∀ w : World, (callFunc 57 #[.int .u64 9218868437227405312]).run Tryz.prog w = .ok (.value (.float .f64 9218868437227405312)) w := Fq.ff64 9218868437227405312
  have h2 : ∀ w : World, (callFunc 57 #[.int .u64 18442240474082181120]).run Tryz.prog w = .ok (.value (.float .f64 18442240474082181120)) w := Fq.ff64 18442240474082181120
  by_cases c : 0 ≤ s
  · rw [if_pos c]
    go_enter Tryz.func80, Tryz.ntmps80
    go_wp2
    exact bodyPost_ret (v := .float .f64 9218868437227405312) (by simp [results, Tryz.results80, go_sem]) rfl ⟨rfl, rfl⟩
  · rw [if_neg c]
    go_enter Tryz.func80, Tryz.ntmps80
    go_wp2
    exact bodyPost_ret (v := .float .f64 18442240474082181120) (by simp [results, Tryz.results80, go_sem]) rfl ⟨rfl, rfl⟩
set_option maxRecDepth 20000 in
set_option maxHeartbeats 400000 in
theorem limit_ (s : Int) (w : World) : Calls Tryz.prog 45 #[.int .i64 s] w fun e w' => e = .returned (.float .f64 (limW s)) ∧ w' = w := by
  have h1 := infT_ s
  have h2 := mnan_
  unfold limW
  by_cases c : s = 2
  · rw [if_pos c]
    subst c
    clear h1
    go_enter Tryz.func45, Tryz.ntmps45
    go_wp2_with (first | (go_at_call 49; refine (h2 _).mono ?_; rintro e w' ⟨rfl, hw'⟩; obtain rfl := hw'.symm; clear hw'))
    exact bodyPost_ret (v := .float .f64 9221120237041090561) (by simp [results, Tryz.results45, go_sem]) rfl ⟨rfl, rfl⟩
  · rw [if_neg c]
    have t : (s == 2) = false := by simpa using c
    generalize (if 0 ≤ s then 9218868437227405312 else 18442240474082181120 : Nat) = R at *
    clear c
    go_enter Tryz.func45, Tryz.ntmps45
    go_wp2_with (first | (go_at_call 80; refine (h1 _).mono ?_; rintro e w' ⟨rfl, hw'⟩; obtain rfl := hw'.symm; clear hw'))
    exact bodyPost_ret (v := .float .f64 R) (by simp [results, Tryz.results45, go_sem]) rfl ⟨rfl, rfl⟩
theorem fa0 (b : Nat) (w : World) : (Instr.fieldAt 54 (.pointer (some ⟨b, 0, none⟩)) 0).run Tryz.prog w = .ok (.pointer (some ⟨b, 0, none⟩)) w := by kernel_rfl
theorem loadS {w : World} {b : Nat} {ws : List Nat} {k : Nat} {s : Int} (h : Sb w b ws k s) : (loadVar 52 ⟨b, 0, none⟩).run Tryz.prog w = .ok (.agg (wc ws)) w := by
  have := run_loadVar_mid (P := Tryz.prog) w b 0 52 (wc ws).toList _ (fun j v hv => by
    rw [Nat.zero_add, h.2.cell]
    have hj : j < (wc ws).size := by
      have := (List.getElem?_eq_some_iff.1 hv).1
      simpa using this
    rw [Array.getElem?_append_left hj]
    simpa using hv) undW rfl (by rw [Array.length_toList, wc_size, h.1]; exact infoW)
  simpa using this
theorem round_val (d V : Int) (xs : List Int) (hl : xs.length = 134) (hw : Wd xs) (hv : val xs = V.natAbs) : ofW d (decide (V < 0)) (val xs) (-2148) = fmaW d V := by
  refine of_fma d _ _ (-2148) V (by decide) (by decide) ?_ ?_
  · have h := val_lt xs hw
    rw [hl, show (4294967296 : Nat) = 2 ^ 32 from rfl, ← Nat.pow_mul] at h
    exact Nat.le_trans ((blen_le_iff (val xs) (32 * 134)).2 h) (by decide)
  · rw [hv, show ((-2148 : Int) + 2148).toNat = 0 from rfl, Nat.pow_zero, Nat.mul_one]
    by_cases c : V < 0
    · rw [decide_eq_true c]; simp; omega
    · rw [decide_eq_false c]; simp; omega
set_option maxRecDepth 20000 in
set_option maxHeartbeats 600000 in
theorem roundF_ (d : Int) (hd1 : -9223372036854775808 ≤ d) (hd2 : d < 9223372036854775808) (b : Nat) (ws : List Nat) (V : Int) (hV : Rep ws V) (hb : V.natAbs < wh) (k : Nat) (w : World) (hS : Sb w b ws k 0) (hT : Tab w) (hQ : Fq.Tab w) : Calls Tryz.prog 10 #[.pointer (some ⟨b, 0, none⟩), .int .i64 d] w fun e w' => e = .returned (.float .f64 (fmaW d V)) ∧ Kp w w' := by
  have hnt : ∀ w : World, Calls Tryz.prog 46 #[.agg (wc ws)] w fun e w' => ∃ (v : Value) (xs : List Int), e = .returned (.tuple #[.bool (decide (V < 0)), v]) ∧ Own w' w.heap.size v xs ∧ Wd xs ∧ xs.length = 134 ∧ val xs = V.natAbs ∧ Kp w w' := fun w => by
    by_cases c : V < 0
    · rw [decide_eq_true c]; exact natN_ ws V hV hb c w
    · rw [decide_eq_false c]; exact natP_ ws V hV hb c w
  have hof : ∀ (w1 : World) (p : Option Addr) (c : Nat) (xs : List Int), Arr w1 p xs → Wd xs → xs.length = 134 → xs.length ≤ c → val xs = V.natAbs → Kp w w1 → Calls Tryz.prog 47 #[.int .i64 d, .bool (decide (V < 0)), .slice p xs.length c, .int .i64 (-2148)] w1 fun e w' => e = .returned (.float .f64 (fmaW d V)) ∧ Kp w1 w' := fun w1 p c xs hx hw hl hc hv g => by
    have := pof_ d (decide (V < 0)) p c xs (-2148) w1 (hT.grown g) (Fq.Tab.grown hQ g) hd1 hd2 hx hw (by omega) hc
    rw [round_val d V xs hl hw hv] at this
    exact this
  have c1 := hS.state
  have hld := loadS hS
  generalize fmaW d V = R at *
  generalize decide (V < 0) = ng at *
  clear hV hb hT hQ hd1 hd2
  go_enter Tryz.func10, Tryz.ntmps10
  go_upto_region 3 with fail
  refine wp_region_list ?_
  refine wpl_val rfl _ rfl ?_
  refine wpl_val rfl _ rfl ?_
  refine wpl_field rfl _ _ _ rfl _ _ rfl (fa0 b _) ?_
  refine wpl_load rfl 52 _ rfl b 0 rfl _ hld ?_
  go_wp2_with (first | (go_at_call 46; refine (hnt _).mono ?_; rintro e w1 ⟨v, xs, rfl, ho, hwx, hxl, hvx, g1⟩; obtain ⟨p, c, rfl, hx, hc⟩ := ho.arr; have hof := hof w1 p c xs hx hwx hxl hc hvx g1; clear hxl hvx hx hc hwx ho) | (go_at_call 47; refine hof.mono ?_; rintro e w2 ⟨rfl, g2⟩))
  exact bodyPost_ret (v := .float .f64 R) (by simp [results, Tryz.results10, go_sem]) rfl ⟨rfl, g1.trans g2⟩
set_option maxRecDepth 20000 in
set_option maxHeartbeats 400000 in
theorem roundX_ (d : Int) (b : Nat) (ws : List Nat) (k : Nat) (s : Int) (hs : s ≠ 0) (w : World) (hS : Sb w b ws k s) : Calls Tryz.prog 10 #[.pointer (some ⟨b, 0, none⟩), .int .i64 d] w fun e w' => e = .returned (.float .f64 (limW s)) ∧ Kp w w' := by
  have c1 := hS.state
  have t : (s != 0) = true := by simpa using hs
  have hl := limit_ s
  generalize limW s = R at *
  clear hs hS
  go_enter Tryz.func10, Tryz.ntmps10
  go_wp2_with (first | (go_at_call 45; refine (hl _).mono ?_; rintro e w' ⟨rfl, hw'⟩; obtain rfl := hw'.symm; clear hw'))
  exact bodyPost_ret (v := .float .f64 R) (by simp [results, Tryz.results10, go_sem]) rfl ⟨rfl, Kp.refl _⟩
set_option maxRecDepth 20000 in
set_option maxHeartbeats 400000 in
theorem state_ (b : Nat) (ws : List Nat) (k : Nat) (s : Int) (w : World) (hS : Sb w b ws k s) : Calls Tryz.prog 12 #[.pointer (some ⟨b, 0, none⟩)] w fun e w' => e = .returned (.int .i64 s) ∧ w' = w := by
  have c1 := hS.state
  clear hS
  go_enter Tryz.func12, Tryz.ntmps12
  go_wp2
  exact bodyPost_ret (v := .int .i64 s) (by simp [results, Tryz.results12, go_sem]) rfl ⟨rfl, rfl⟩
def sgV (V : Int) : Int := if V < 0 then -1 else if V = 0 then 0 else 1
set_option maxRecDepth 20000 in
set_option maxHeartbeats 400000 in
theorem signF_ (b : Nat) (ws : List Nat) (V : Int) (hV : Rep ws V) (hb : V.natAbs < wh) (k : Nat) (w : World) (hS : Sb w b ws k 0) : Calls Tryz.prog 11 #[.pointer (some ⟨b, 0, none⟩)] w fun e w' => e = .returned (.int .i64 (sgV V)) ∧ Kp w w' := by
  have c1 := hS.state
  have hld := loadS hS
  have hsg : ∀ w : World, Calls Tryz.prog 48 #[.agg (wc ws)] w fun e w' => e = .returned (.int .i64 (sgV V)) ∧ Kp w w' := sign_ ws V hV hb
  generalize sgV V = R at *
  clear hV hb hS
  go_enter Tryz.func11, Tryz.ntmps11
  go_upto_region 3 with fail
  refine wp_region_list ?_
  refine wpl_val rfl _ rfl ?_
  refine wpl_val rfl _ rfl ?_
  refine wpl_field rfl _ _ _ rfl _ _ rfl (fa0 b _) ?_
  refine wpl_load rfl 52 _ rfl b 0 rfl _ hld ?_
  go_wp2_with (first | (go_at_call 48; refine (hsg _).mono ?_; rintro e w1 ⟨rfl, g1⟩))
  exact bodyPost_ret (v := .int .i64 R) (by simp [results, Tryz.results11, go_sem]) rfl ⟨rfl, g1⟩
set_option maxRecDepth 20000 in
set_option maxHeartbeats 400000 in
theorem signX_ (b : Nat) (ws : List Nat) (k : Nat) (s : Int) (hs : s = 1 ∨ s = -1 ∨ s = 2) (w : World) (hS : Sb w b ws k s) : Calls Tryz.prog 11 #[.pointer (some ⟨b, 0, none⟩)] w fun e w' => e = .returned (.int .i64 (if s = 2 then 0 else s)) ∧ Kp w w' := by
  have c1 := hS.state
  clear hS
  rcases hs with rfl | rfl | rfl
  · go_enter Tryz.func11, Tryz.ntmps11
    go_wp2
    exact bodyPost_ret (v := .int .i64 1) (by simp [results, Tryz.results11, go_sem]) rfl ⟨rfl, Kp.refl _⟩
  · go_enter Tryz.func11, Tryz.ntmps11
    go_wp2
    exact bodyPost_ret (v := .int .i64 (-1)) (by simp [results, Tryz.results11, go_sem]) rfl ⟨rfl, Kp.refl _⟩
  · go_enter Tryz.func11, Tryz.ntmps11
    go_wp2
    exact bodyPost_ret (v := .int .i64 0) (by simp [results, Tryz.results11, go_sem]) rfl ⟨rfl, Kp.refl _⟩
theorem zeroS : ∀ w : World, (zeroValue 54).run Tryz.prog w = .ok (.agg (wc (List.replicate 67 0) ++ #[.int .u64 0, .int .i64 0])) w := (zero_of_info (P := Tryz.prog) (t := 54) (v := .agg (wc (List.replicate 67 0) ++ #[.int .u64 0, .int .i64 0])) (n := 69) (by kernel_rfl)).1
theorem Sb.zero (w : World) : Sb (w.alloc (.cells (wc (List.replicate 67 0) ++ #[.int .u64 0, .int .i64 0]) 54)) w.heap.size (List.replicate 67 0) 0 0 := ⟨List.length_replicate, Bk.new _ _ _⟩
set_option maxRecDepth 20000 in
set_option maxHeartbeats 400000 in
theorem new_ (w : World) : Calls Tryz.prog 7 #[] w fun e w' => e = .returned (.pointer (some ⟨w.heap.size, 0, none⟩)) ∧ Sb w' w.heap.size (List.replicate 67 0) 0 0 ∧ Kp w w' := by
  have hz := zeroS
  have h1 := Sb.zero w
  have hs : (wc (List.replicate 67 0) ++ #[Value.int .u64 0, Value.int .i64 0]).size = 69 := by rw [Array.size_append, wc_size, List.length_replicate]; rfl
  generalize wc (List.replicate 67 0) ++ #[Value.int .u64 0, Value.int .i64 0] = Z at *
  have k1 : Kp w (w.alloc (.cells Z 54)) := (Kp.refl w).alloc _
  go_enter Tryz.func7, Tryz.ntmps7
  go_wp2
  exact bodyPost_ret (v := .pointer (some ⟨w.heap.size, 0, none⟩)) (by simp [results, Tryz.results7, go_sem]) rfl ⟨rfl, h1, k1⟩

def tb (K : Nat) : Nat := 2 ^ (2 * K + 2048)
theorem iv_lt (n : Bool) (m K : Nat) (hK : K = 1074) (hm : m < 9218868437227405312) : (Iv n m).natAbs < 2 ^ (K + 1024) := by
  have h := (Fq.vV_lt_iff Ieee.double m 9218868437227405312).2 hm
  have e : Fq.vV Ieee.double 9218868437227405312 = 2 ^ (K + 1024) := by rw [hK]; decide +kernel
  rw [e] at h
  unfold Iv
  cases n <;> simp <;> omega
theorem tV_le (n : Bool) (m K : Nat) (hK : K = 1074) (hm : m < 9218868437227405312) : (tV n m K).natAbs ≤ tb K := by
  have h := iv_lt n m K hK hm
  unfold tV tb
  rw [Int.natAbs_mul, Int.natAbs_natCast, show 2 * K + 2048 = (K + 1024) + (K + 1024) by omega, Nat.pow_add 2 (K + 1024)]
  exact Nat.mul_le_mul (Nat.le_of_lt h) (Nat.pow_le_pow_right (by decide) (by omega))
theorem pV_le (n n' : Bool) (m m' K : Nat) (hK : K = 1074) (hm : m < 9218868437227405312) (hm' : m' < 9218868437227405312) : (Iv n m * Iv n' m').natAbs ≤ tb K := by
  have h := iv_lt n m K hK hm
  have h' := iv_lt n' m' K hK hm'
  unfold tb
  rw [Int.natAbs_mul, show 2 * K + 2048 = (K + 1024) + (K + 1024) by omega, Nat.pow_add 2 (K + 1024)]
  exact Nat.mul_le_mul (Nat.le_of_lt h) (Nat.le_of_lt h')
theorem tb_wh (K k : Nat) (hK : K = 1074) (hk : k ≤ 4611686018427387904) : k * tb K < wh := by
  have e : 4611686018427387904 * tb K < wh := by rw [hK]; decide +kernel
  exact Nat.lt_of_le_of_lt (Nat.mul_le_mul_right _ hk) e
def Fs (w : World) (b : Nat) (V : Int) (k K : Nat) : Prop := ∃ ws, Rep ws V ∧ Sb w b ws k 0 ∧ k ≤ 4611686018427387904 ∧ V.natAbs ≤ k * tb K
theorem Fs.lt {w : World} {b : Nat} {V : Int} {k K : Nat} (h : Fs w b V k K) : b < w.heap.size := by
  obtain ⟨ws, h1, h2, h3⟩ := h; exact h2.2.lt
theorem Fs.kp {w w' : World} {b : Nat} {V : Int} {k K : Nat} (h : Fs w b V k K) (g : Kp w w') : Fs w' b V k K := by
  obtain ⟨ws, h1, h2, h3⟩ := h; exact ⟨ws, h1, h2.kp g, h3⟩
theorem Fs.kb {w w' : World} {b c : Nat} {V : Int} {k K : Nat} (h : Fs w b V k K) (g : Kb c w w') (hne : b ≠ c) : Fs w' b V k K := by
  obtain ⟨ws, h1, h2, h3⟩ := h; exact ⟨ws, h1, h2.kb g hne, h3⟩
theorem grS0 (k : Nat) (h : k ≤ 4611686018427387904) : grS k (jn 0 0) = 0 := by unfold grS jn; rw [if_neg (by omega)]; rfl
theorem Fs.grow (k : Nat) (V T : Int) (K : Nat) (h1 : V.natAbs ≤ k * tb K) (h2 : T.natAbs ≤ tb K) : (V + T).natAbs ≤ (k + 1) * tb K := by
  rw [Nat.add_mul, Nat.one_mul]
  generalize k * tb K = P at *
  generalize tb K = Q at *
  omega

theorem maskN (a : Nat) (ha : a < 18446744073709551616) : bits .and .u64 (a : Int) 4294967295 = ((a % 4294967296 : Nat) : Int) := by
  have h := bits_and_u64_nat a 4294967295 ha (by omega)
  have e : a &&& 4294967295 = a % 4294967296 := Nat.and_two_pow_sub_one_eq_mod a 32
  rw [e] at h
  exact h
theorem divN (a : Nat) : (a : Int) / 4294967296 = ((a / 4294967296 : Nat) : Int) := by omega
theorem mulNN (a b : Nat) : (a : Int) * (b : Int) = ((a * b : Nat) : Int) := (Int.natCast_mul a b).symm
theorem addNN (a b : Nat) : (a : Int) + (b : Int) = ((a + b : Nat) : Int) := (Int.natCast_add a b).symm
theorem wrapN (a : Nat) (ha : a < 18446744073709551616) : IntKind.u64.wrap (a : Int) = (a : Int) := by rw [IntKind.wrap_u64]; omega
theorem wrapM (a : Nat) : IntKind.u64.wrap (a : Int) = ((a % 18446744073709551616 : Nat) : Int) := by rw [IntKind.wrap_u64]; omega
set_option maxRecDepth 20000 in
set_option maxHeartbeats 1000000 in
theorem mul64_ (x y : Nat) (hx : x < 18446744073709551616) (hy : y < 18446744073709551616) (w : World) :
    Calls Tryz.prog 54 #[.int .u64 x, .int .u64 y] w fun e w' => e = .returned (.tuple #[.int .u64 ((x * y / 18446744073709551616 : Nat) : Int), .int .u64 ((x * y % 18446744073709551616 : Nat) : Int)]) ∧ w' = w := by
  obtain ⟨bd, bt, bw, hhi⟩ := Lib.mul64_hi x y hx hy
  have ba := Lib.half_mul_le (a := x / 4294967296) (b := y / 4294967296) (by omega) (by omega)
  have bb := Lib.half_mul_le (a := x / 4294967296) (b := y % 4294967296) (by omega) (by omega)
  have bc := Lib.half_mul_le (a := x % 4294967296) (b := y / 4294967296) (by omega) (by omega)
  have ba' : x / 4294967296 * (y / 4294967296) < 18446744073709551616 := by omega
  have bb' : x / 4294967296 * (y % 4294967296) < 18446744073709551616 := by omega
  have bc' : x % 4294967296 * (y / 4294967296) < 18446744073709551616 := by omega
  have bh1 : x / 4294967296 * (y / 4294967296) + (x / 4294967296 * (y % 4294967296) + x % 4294967296 * (y % 4294967296) / 4294967296) / 4294967296 < 18446744073709551616 := by omega
  have bh : x / 4294967296 * (y / 4294967296) + (x / 4294967296 * (y % 4294967296) + x % 4294967296 * (y % 4294967296) / 4294967296) / 4294967296 + ((x / 4294967296 * (y % 4294967296) + x % 4294967296 * (y % 4294967296) / 4294967296) % 4294967296 + x % 4294967296 * (y / 4294967296)) / 4294967296 < 18446744073709551616 := by omega
  go_enter Tryz.func54, Tryz.ntmps54
  go_wp2
  simp only [maskN x hx, maskN y hy, divN, mulNN, addNN, wrapN _ bd, wrapN _ bb', wrapN _ bt, maskN _ bt, wrapN _ bc', wrapN _ bw, wrapN _ ba', wrapN _ bh1, wrapN _ bh, wrapM (x * y)]
  rw [hhi]
  exact bodyPost_ret (v := .tuple #[.int .u64 ((x * y / 18446744073709551616 : Nat) : Int), .int .u64 ((x * y % 18446744073709551616 : Nat) : Int)]) (by simp [results, Tryz.results54, go_sem]) rfl ⟨rfl, rfl⟩
end Go.Proofs.YteedfmghgkmofaaGreatDoor
