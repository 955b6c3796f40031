import Derived.Test.YtbcjhmdkpkmieaaKDPackDecos0
import Derived.Test.YtbcjhmdkpkmieaaKDPackBoxes0
import Derived.WalkKit
import Derived.ProofKit
import Derived.RowKit3
import Derived.WalkSpells
import Derived.StillTactics
import Derived.Deep.QuietTactic
import Derived.BigQuiet
import Derived.Below
import Derived.Deep.OwnRows
import Derived.OwnWalk
import Derived.Lib.BitFns
import Derived.Deep.RegionHeld3
import Derived.Deep.CutRange
import Derived.Deep.DeepCutAuto
namespace Go.Proofs.Ytbcjhmdkpkmieaa
open Go.RowKit
open Go
namespace B8
theorem bt_lt (n j : Nat) : bt n j < 256 := Nat.mod_lt _ (by decide)
theorem Wb.append {xs ys : List Int} (h : Wb xs) (k : Wb ys) : Wb (xs ++ ys) := by
  intro j
  by_cases c : j < xs.length
  · have := h j; simpa [List.getD, List.getElem?_append, c] using this
  · have := k (j - xs.length); simpa [List.getD, List.getElem?_append, c] using this
theorem by8_wb (n : Nat) : Wb (by8 n) := by
  intro j
  by_cases c : j < 8
  · rw [by8_getD n j c]; have := bt_lt n j; omega
  · have : (by8 n).getD j 0 = 0 := by
      rw [List.getD, List.getElem?_eq_none (by rw [by8_len]; omega)]; rfl
    omega
theorem bv_by8 (n : Nat) (h : n < 18446744073709551616) : bv (by8 n) = n := by
  show bv [_, _, _, _, _, _, _, _] = n
  simp only [bt, bv, Int.toNat_natCast, show (256 : Nat) ^ 0 = 1 from rfl, show (256 : Nat) ^ 1 = 256 from rfl, show (256 : Nat) ^ 2 = 256 * 256 from rfl, show (256 : Nat) ^ 3 = 256 * 256 * 256 from rfl, show (256 : Nat) ^ 4 = 256 * 256 * 256 * 256 from rfl, show (256 : Nat) ^ 5 = 256 * 256 * 256 * 256 * 256 from rfl, show (256 : Nat) ^ 6 = 256 * 256 * 256 * 256 * 256 * 256 from rfl, show (256 : Nat) ^ 7 = 256 * 256 * 256 * 256 * 256 * 256 * 256 from rfl, ← Nat.div_div_eq_div_mul, Nat.div_one]
  omega
end B8
end Go.Proofs.Ytbcjhmdkpkmieaa
namespace Go.Proofs.Ytbcjhmdkpkmieaa
open Go.RowKit
open Go
namespace B8
def one16 : List Int := [0, 0, 0, 0, 0, 0, 240, 63, 0, 0, 0, 0, 0, 0, 0, 64]
theorem Wb.of {xs : List Int} (h : ∀ x ∈ xs, 0 ≤ x ∧ x < 256) : Wb xs := by
  intro j
  by_cases c : j < xs.length
  · have e : xs.getD j 0 = xs[j] := by simp [List.getD, c]
    rw [e]; exact h _ (List.getElem_mem c)
  · have : xs.getD j 0 = 0 := by rw [List.getD, List.getElem?_eq_none (by omega)]; rfl
    omega
theorem one_wb : Wb one16 := Wb.of (by decide)
theorem one_get : gX one16 = 4607182418800017408 ∧ gY one16 = 4611686018427387904 ∧ gE one16 = 0 := by decide +kernel
theorem arr_lit (w : World) (xs : List Int) (t : TypeId) : Arr (w.alloc (.cells (xs.map (Value.int .u8)).toArray t)) (some ⟨w.heap.size, 0, none⟩) xs := Or.inr ⟨_, 0, rfl, fun j hj => by
  rw [Nat.zero_add]
  have := (World.rowIs_alloc w (xs.map (Value.int .u8)).toArray t (fun j => .int .u8 (xs.getD j 0)) (fun i hi => by
    have hi' : i < xs.length := by simpa using hi
    simp [List.getD, hi'])).cell (i := j) (by simpa using hj)
  exact this⟩
set_option maxRecDepth 20000 in
set_option maxHeartbeats 1000000 in
theorem awake_ (w : World) : Calls Try.prog 9 #[] w fun e w' => e = .returned (.bool true) ∧ Kp w w' := by
  have hg : Calls Try.prog 24 #[.slice (some ⟨w.heap.size, 0, none⟩) 16 16] (w.alloc (.cells #[.int .u8 0, .int .u8 0, .int .u8 0, .int .u8 0, .int .u8 0, .int .u8 0, .int .u8 240, .int .u8 63, .int .u8 0, .int .u8 0, .int .u8 0, .int .u8 0, .int .u8 0, .int .u8 0, .int .u8 0, .int .u8 64] 5)) fun e w' => e = .returned (.tuple #[.agg #[.float .f64 4607182418800017408, .float .f64 4611686018427387904], .int .i64 0]) ∧ Kp (w.alloc (.cells #[.int .u8 0, .int .u8 0, .int .u8 0, .int .u8 0, .int .u8 0, .int .u8 0, .int .u8 240, .int .u8 63, .int .u8 0, .int .u8 0, .int .u8 0, .int .u8 0, .int .u8 0, .int .u8 0, .int .u8 0, .int .u8 64] 5)) w' := by
    have := get_ (some ⟨w.heap.size, 0, none⟩) 16 16 one16 (w.alloc (.cells #[.int .u8 0, .int .u8 0, .int .u8 0, .int .u8 0, .int .u8 0, .int .u8 0, .int .u8 240, .int .u8 63, .int .u8 0, .int .u8 0, .int .u8 0, .int .u8 0, .int .u8 0, .int .u8 0, .int .u8 0, .int .u8 64] 5)) (arr_lit w one16 5) rfl one_wb (Nat.le_refl _)
    rw [one_get.1, one_get.2.1, one_get.2.2] at this
    exact this
  have q1 := Fq.eqInR 4607182418800017408 4607182418800017408
  have q2 := Fq.eqInR 4611686018427387904 4611686018427387904
  rw [show (FloatKind.f64.format.order 4607182418800017408 4607182418800017408 == some Ordering.eq) = true from by decide +kernel] at q1
  rw [show (FloatKind.f64.format.order 4611686018427387904 4611686018427387904 == some Ordering.eq) = true from by decide +kernel] at q2
  have k0 : Kp w (w.alloc (.cells #[.int .u8 0, .int .u8 0, .int .u8 0, .int .u8 0, .int .u8 0, .int .u8 0, .int .u8 240, .int .u8 63, .int .u8 0, .int .u8 0, .int .u8 0, .int .u8 0, .int .u8 0, .int .u8 0, .int .u8 0, .int .u8 64] 5)) := (Kp.refl w).alloc _
  go_enter Try.func9, Try.ntmps9
  go_wp2_with (first | (go_at_call 24; refine hg.mono ?_; rintro e w1 ⟨rfl, g1⟩; have k1 := Kp.trans k0 g1))
  exact bodyPost_ret (v := .bool true) (by simp [results, Try.results9, go_sem]) rfl ⟨rfl, (k1.alloc _)⟩
end B8
end Go.Proofs.Ytbcjhmdkpkmieaa
namespace Go.Proofs.Ytbcjhmdkpkmieaa
open Go.RowKit
open Go
namespace B8
theorem wpList_app {P : Program} (w : World) {ops : Array Oper} {rest : List Oper} {o : Oper} {a : Act} {Q : Exit → Act → World → Prop} (hw : Region.wanted o (yielded ops a.tmps) = true) (s x : Operand) (t : TypeId)
    (ho : o.op = .call { callee := .builtin .append, args := #[s, x], argTypes := #[t, t] }) (v u v' : Value) (w' : World) (hs : a.eval s = v) (hx : a.eval x = u)
    (hr : (Builtin.append_ #[t, t] o.type #[v, u]).run P w = .ok v' w') (h : wpList P ops Q rest (a.put o.dst v') w') : wpList P ops Q (o :: rest) a w := by
  refine wpList_step fun K hK => ?_
  rw [if_pos hw]
  unfold Oper.wp execOp
  simp only [ho, resolve, invoke, builtin, Sem.run_bind, Sem.run_pure, Result.andThen_ok, List.map_toArray, List.map_cons, List.map_nil, hs, hx, hr]
  exact hK _ _ h
theorem app_run (w : World) (base : Nat) (v : Value) (xs ys : List Int) (b off m c : Nat) (hown : Own w base v xs) (ha : Arr w (some ⟨b, off, none⟩) ys) (hl : ys.length = m) (hb : xs.length + m ≤ 1048576) (hbase : base ≤ w.heap.size) :
    ∃ v' w', (Builtin.append_ #[22, 22] 22 #[v, .slice (some ⟨b, off, none⟩) m c]).run Try.prog w = .ok v' w' ∧ Own w' base v' (xs ++ ys) ∧ (∀ W : World, Kp W w → (∀ k, v.ownBlock = some k → W.heap.size ≤ k) → Kp W w') := by
  obtain ⟨i0, hi0, hi1, hi2, hi3⟩ := inf8p
  obtain ⟨v', w', hr, ho, hg, -⟩ := run_append_own (P := Try.prog) w base 22 22 5 i0 (.int .u8 0) 1 1 Try.underlying22 hi0 hi1 hi2 hi3 rfl (by decide) v xs.length (xs.map (Value.int .u8)) hown ⟨b, off, none⟩ m c (ys.map (Value.int .u8)) (by rw [List.length_map, hl]; omega) (fun j u hu => by
    have hj : j < ys.length := by
      have := (List.getElem?_eq_some_iff.1 hu).1
      simpa using this
    obtain ⟨b', off', e, hc⟩ := ha.at hj
    obtain ⟨rfl, rfl⟩ : b = b' ∧ off = off' := by simpa using e
    rw [addr_add, hc j hj]
    simpa [List.getD, hj] using hu) (fun u hu => by obtain ⟨x, _, rfl⟩ := List.mem_map.1 hu; rfl) (by unfold maxLen; omega) (by omega) hbase
  refine ⟨v', w', hr, ?_, fun W hk hW => hk.grown hg hW⟩
  unfold Own
  rw [List.length_append, List.map_append, hl]
  exact ho
theorem own_lit (w : World) (xs : List Int) (hl : xs.length ≤ 1048576) : Own (w.alloc (.cells (xs.map (Value.int .u8)).toArray 5)) w.heap.size (.slice (some ⟨w.heap.size, 0, none⟩) xs.length xs.length) xs := by
  have h := World.rowIs_alloc w (xs.map (Value.int .u8)).toArray 5 (fun j => .int .u8 (xs.getD j 0)) (fun i hi => by
    have hi' : i < xs.length := by simpa using hi
    simp [List.getD, hi'])
  have e : (xs.map (Value.int .u8)).toArray.size = xs.length := by simp
  rw [e] at h
  have := Own.of_row (xs := xs) (k := xs.length) h (Nat.le_refl _) (Nat.le_refl _) rfl (by unfold maxLen; omega)
  rwa [List.take_length] at this
end B8
end Go.Proofs.Ytbcjhmdkpkmieaa
namespace Go.Proofs.Ytbcjhmdkpkmieaa
open Go.RowKit
open Go
namespace B8
def void16 : List Int := [0, 0, 0, 0, 0, 0, 240, 127, 0, 0, 0, 0, 0, 0, 240, 255]
theorem fm_one : fm (4607182418800017408, 4611686018427387904) = one16 := by decide +kernel
theorem fm_void : fm (4611686018427387904, 4607182418800017408) = void16 := by decide +kernel
theorem fm_nan : fm (9221120237041090561, 0) = void16 := by decide +kernel
theorem rd_one : Rd 4607182418800017408 4611686018427387904 4607182418800017408 4611686018427387904 := ⟨by decide, by decide, by unfold VdZ; omega, by decide +kernel, by decide +kernel⟩
theorem putdeco16_ (W : World) : Calls Try.prog 12 #[.agg #[.float .f64 4607182418800017408, .float .f64 4611686018427387904, .int .i64 16]] W fun e w' => ∃ g, e = .returned (.slice (some ⟨g, 0, none⟩) 17 17) ∧ W.heap.size ≤ g ∧ Rw w' g 17 (one16 ++ [16]) ∧ Kp W w' := by
  have hr := dread_ 4607182418800017408 4611686018427387904 4607182418800017408 4611686018427387904 16 rd_one
  rw [show dL 4607182418800017408 4611686018427387904 4607182418800017408 (dN 4607182418800017408 4611686018427387904 16) = 4607182418800017408 from by decide +kernel, show dH 4607182418800017408 4611686018427387904 4607182418800017408 4611686018427387904 (dN 4607182418800017408 4611686018427387904 16) = 4611686018427387904 from by decide +kernel, show dR 4607182418800017408 4611686018427387904 4607182418800017408 (dN 4607182418800017408 4611686018427387904 16) = 16 from by decide +kernel] at hr
  have hp := putn_ 4607182418800017408 4611686018427387904 (by decide) (by decide)
  rw [fm_one] at hp
  exact putdecoA_ 4607182418800017408 4611686018427387904 4607182418800017408 4611686018427387904 16 16 one16 rfl (by decide) (by decide) hr hp W
theorem putdeco7_ (W : World) : Calls Try.prog 12 #[.agg #[.float .f64 4607182418800017408, .float .f64 4611686018427387904, .int .i64 7]] W fun e w' => ∃ g, e = .returned (.slice (some ⟨g, 0, none⟩) 17 17) ∧ W.heap.size ≤ g ∧ Rw w' g 17 (void16 ++ [0]) ∧ Kp W w' := by
  have hr := dread_ 4607182418800017408 4611686018427387904 4607182418800017408 4611686018427387904 7 rd_one
  rw [show dL 4607182418800017408 4611686018427387904 4607182418800017408 (dN 4607182418800017408 4611686018427387904 7) = 9218868437227405312 from by decide +kernel, show dH 4607182418800017408 4611686018427387904 4607182418800017408 4611686018427387904 (dN 4607182418800017408 4611686018427387904 7) = 18442240474082181120 from by decide +kernel, show dR 4607182418800017408 4611686018427387904 4607182418800017408 (dN 4607182418800017408 4611686018427387904 7) = 0 from by decide +kernel] at hr
  have hp := putn_ 9218868437227405312 18442240474082181120 (by decide) (by decide)
  rw [show fm (9218868437227405312, 18442240474082181120) = void16 from by decide +kernel] at hp
  exact putdecoA_ 4607182418800017408 4611686018427387904 9218868437227405312 18442240474082181120 7 0 void16 rfl (by decide) (by decide) hr hp W
/-- so many times the interval [1, 2] -/
def rep (k : Nat) : List (Nat × Nat) := List.replicate k (4607182418800017408, 4611686018427387904)
theorem rep_succ (k : Nat) : fms (rep k) ++ one16 = fms (rep (k + 1)) := by
  unfold rep
  rw [List.replicate_succ', fms_app]
  simp only [fms, List.append_nil, fm_one]
theorem rep_wq (k : Nat) : Wq (rep k) := by
  intro j
  unfold rep
  rw [List.getD, List.getElem?_replicate]
  split
  · exact ⟨by decide, by decide⟩
  · exact ⟨by decide, by decide⟩
theorem rep_len (k : Nat) : (fms (rep k)).length = 16 * k := by rw [fms_len]; simp [rep]
theorem sames_ (m : Nat) (xs : List Int) (hl : xs.length = m) (hm : m ≤ 1048576) : ∀ (p q : Option Addr) (c d : Nat) (W : World), Arr W p xs → Arr W q xs → Calls Try.prog 10 #[.slice p m c, .slice q m d] W fun e w' => e = .returned (.bool true) ∧ Kp W w' := by
  intro p q c d W h1 h2
  have := same_ p q c d xs xs W h1 h2 (by rw [hl]; omega)
  rw [hl, decide_eq_true rfl] at this
  exact this
theorem copiedn_ (xs : List Int) (hl : xs.length = 16) : ∀ (p : Option Addr) (c : Nat) (W : World), Arr W p xs → Calls Try.prog 13 #[.slice p 16 c] W fun e w' => ∃ v, e = .returned v ∧ Own w' W.heap.size v xs ∧ Kp W w' := by
  intro p c W h
  have := copied_ p c xs W h (by rw [hl]; decide)
  rw [hl] at this
  exact this
end B8
end Go.Proofs.Ytbcjhmdkpkmieaa
namespace Go.Proofs.Ytbcjhmdkpkmieaa
open Go.RowKit
open Go
namespace B8
theorem vld_pw (L H : Int) (hd : VdZ L H) : Fq.vld (pw L) (pw H) = true := by
  have r := Rd.of hd
  have i1 := pw_inj L 9218868437227405312 hd.lo (by unfold BdZ; omega)
  have i4 := pw_inj H (-9218868437227405312) hd.hi (by unfold BdZ; omega)
  rw [pw_I] at i1
  rw [pw_MI] at i4
  by_cases c : L = 9218868437227405312
  · have eH : H = -9218868437227405312 := by unfold VdZ at hd; omega
    unfold Fq.vld
    rw [decide_eq_true ⟨i1.2 c, i4.2 eH⟩]; rfl
  · have := vld_pla (pw L) (pw H) L H r
    have ep := rd_pla (pw L) (pw H) L H r c
    rw [ep.1, ep.2, decide_eq_false c] at this
    rw [this]; rfl
theorem fm_back (a b : Nat) (ha : a < 18446744073709551616) (hb : b < 18446744073709551616) : gOk (fm (a, b)) = true ∧ gX (fm (a, b)) = Fq.rlo a b ∧ gY (fm (a, b)) = Fq.rhi a b := by
  obtain ⟨L, H, r⟩ := Rd.ex a b ha hb
  have b1 : Fq.rlo a b < 18446744073709551616 := by rw [r.2.2.2.1]; exact pw_lt L r.vd.lo
  have b2 : Fq.rhi a b < 18446744073709551616 := by rw [r.2.2.2.2]; exact pw_lt H r.vd.hi
  have ef : fm (a, b) = by8 (Fq.rlo a b) ++ by8 (Fq.rhi a b) := rfl
  have t1 : (fm (a, b)).take 8 = by8 (Fq.rlo a b) := by rw [ef]; exact List.take_left' (by8_len _)
  have t2 : (fm (a, b)).drop 8 = by8 (Fq.rhi a b) := by rw [ef]; exact List.drop_left' (by8_len _)
  have hok : gOk (fm (a, b)) = true := by
    unfold gOk
    rw [decide_eq_true (fm_len (a, b)), Bool.true_and, t1, t2, bv_by8 _ b1, bv_by8 _ b2, r.2.2.2.1, r.2.2.2.2]
    exact vld_pw L H r.vd
  refine ⟨hok, ?_, ?_⟩
  · unfold gX; rw [if_pos hok, t1]; exact bv_by8 _ b1
  · unfold gY; rw [if_pos hok, t2]; exact bv_by8 _ b2
theorem fm_wb (q : Nat × Nat) : Wb (fm q) := (by8_wb _).append (by8_wb _)
theorem fms_wb : ∀ ps, Wb (fms ps)
  | [] => Wb.nil
  | q :: r => (fm_wb q).append (fms_wb r)
theorem bb_wb (ps : List (Nat × Nat)) (h : ps.length ≤ 32) : Wb (bb ps) := Wb.mk (by omega) (fms_wb ps)
theorem bb_bN (ps : List (Nat × Nat)) : bN (bb ps) = ps.length := rfl
theorem fms_pt : ∀ (ps : List (Nat × Nat)) (k : Nat), k < ps.length → ((fms ps).drop (16 * k)).take 16 = fm (ps.getD k (0, 0))
  | [], k, h => by simp at h
  | q :: r, 0, _ => by
    simp only [fms, Nat.mul_zero, List.drop_zero, List.getD_cons_zero]
    exact List.take_left' (fm_len q)
  | q :: r, k + 1, h => by
    have ih := fms_pt r k (by simpa using h)
    rw [List.getD_cons_succ, ← ih]
    simp only [fms]
    rw [show 16 * (k + 1) = 16 + 16 * k from by omega, ← List.drop_drop, List.drop_left' (fm_len q)]
theorem bb_pt (ps : List (Nat × Nat)) (k : Nat) (h : k < ps.length) : pt (bb ps) k = fm (ps.getD k (0, 0)) := by
  rw [← fms_pt ps k h]
  unfold pt bb
  rw [show 1 + 16 * k = 16 * k + 1 from by omega, List.drop_succ_cons]
theorem getD_pair (ps : List (Nat × Nat)) (k : Nat) : ps.getD k (0, 0) = ((ps.getD k (0, 0)).1, (ps.getD k (0, 0)).2) := rfl
/-- a box as it is read -/
def rdb (ps : List (Nat × Nat)) : List (Nat × Nat) := ps.map (fun q => (Fq.rlo q.1 q.2, Fq.rhi q.1 q.2))
theorem rdb_len (ps : List (Nat × Nat)) : (rdb ps).length = ps.length := by simp [rdb]
theorem rdb_get (ps : List (Nat × Nat)) (k : Nat) (h : k < ps.length) : (rdb ps).getD k (0, 0) = (Fq.rlo (ps.getD k (0, 0)).1 (ps.getD k (0, 0)).2, Fq.rhi (ps.getD k (0, 0)).1 (ps.getD k (0, 0)).2) := by
  simp [rdb, List.getD, h]
theorem bb_back (ps : List (Nat × Nat)) (hq : Wq ps) (h : ps.length ≤ 32) : bOk (bb ps) = true ∧ bL (bb ps) = rdb ps := by
  have hall : bAll (bb ps) ps.length = true := by
    unfold bAll
    rw [List.all_eq_true]
    intro k hk
    have hk := List.mem_range.1 hk
    rw [bb_pt ps k hk, getD_pair]
    exact (fm_back _ _ (hq k).1 (hq k).2).1
  have hok : bOk (bb ps) = true := by
    unfold bOk bHd
    rw [bb_bN, hall, decide_eq_true (by rw [bb_len]; omega : 0 < (bb ps).length), decide_eq_true h, decide_eq_true (bb_len ps)]; rfl
  refine ⟨hok, ?_⟩
  unfold bL
  rw [hok, if_pos rfl, bb_bN]
  apply List.ext_getElem?
  intro k
  by_cases hk : k < ps.length
  · have e1 := bP_get (bb ps) ps.length k hk
    have e2 := rdb_get ps k hk
    have f := fm_back _ _ (hq k).1 (hq k).2
    rw [bb_pt ps k hk, getD_pair ps k, f.2.1, f.2.2] at e1
    rw [List.getD, List.getElem?_eq_getElem (by rw [bP_len]; exact hk)] at e1
    rw [List.getD, List.getElem?_eq_getElem (by rw [rdb_len]; exact hk)] at e2
    rw [List.getElem?_eq_getElem (by rw [bP_len]; exact hk), List.getElem?_eq_getElem (by rw [rdb_len]; exact hk)]
    simp only [Option.getD_some] at e1 e2
    rw [e1, e2]
  · rw [List.getElem?_eq_none (by rw [bP_len]; omega), List.getElem?_eq_none (by rw [rdb_len]; omega)]
end B8
end Go.Proofs.Ytbcjhmdkpkmieaa
namespace Go.Proofs.Ytbcjhmdkpkmieaa
open Go.RowKit
open Go
namespace B8
theorem agl (w : World) : AG FLV (w.alloc (.cells #[.float .f64 4607182418800017408, .float .f64 4611686018427387904, .float .f64 9221120237041090561, .float .f64 0] 25)) (some ⟨w.heap.size, 0, none⟩) [(4607182418800017408, 4611686018427387904), (9221120237041090561, 0)] := Or.inr ⟨_, 0, rfl, fun j hj => by
  match j, hj with
  | 0, _ => simp [go_sem, FLV]
  | 1, _ => simp [go_sem, FLV]⟩
theorem nan9_ (w : World) : Calls Try.prog 16 #[] w fun e w' => e = .returned (.float .f64 9221120237041090561) ∧ w' = w := by
  have hf : ∀ w : World, (callFunc 39 #[.int .u64 9221120237041090561]).run Try.prog w = .ok (.value (.float .f64 9221120237041090561)) w := Fq.ff64 9221120237041090561
  go_enter Try.func16, Try.ntmps16
  go_wp2
  exact bodyPost_ret (v := .float .f64 9221120237041090561) (by simp [results, Try.results16, go_sem]) rfl ⟨rfl, rfl⟩
set_option maxRecDepth 20000 in
set_option maxHeartbeats 4000000 in
theorem nameslaw_ (w : World) : Calls Try.prog 3 #[] w fun e w' => e = .returned (.bool true) ∧ Kp w w' := by
  have HP1 := putn_ 4607182418800017408 4611686018427387904 (by decide) (by decide)
  have HP2 := putn_ 4611686018427387904 4607182418800017408 (by decide) (by decide)
  rw [fm_one] at HP1
  rw [fm_void] at HP2
  have HD1 := putdeco16_
  have HD2 := putdeco7_
  have HS1 := sames_ 16 one16 rfl (by decide)
  have HS2 := sames_ 16 void16 rfl (by decide)
  have HS3 := sames_ 17 (one16 ++ [16]) rfl (by decide)
  have HS4 := sames_ 17 (void16 ++ [0]) rfl (by decide)
  have HS5 := sames_ 33 (2 :: (one16 ++ void16)) rfl (by decide)
  have HC1 := copiedn_ one16 rfl
  have HC2 := copiedn_ void16 rfl
  have HRP : Hid (∀ k, fms (rep k) ++ one16 = fms (rep (k + 1))) := rep_succ
  have HPB : ∀ (g : Nat) (W : World), AG FLV W (some ⟨g, 0, none⟩) [(4607182418800017408, 4611686018427387904), (9221120237041090561, 0)] → Calls Try.prog 15 #[.slice (some ⟨g, 0, none⟩) 2 2] W fun e w' => ∃ G, e = .returned (.tuple #[.slice (some ⟨G, 0, none⟩) 33 33, .int .i64 0]) ∧ W.heap.size ≤ G ∧ Rw w' G 33 (2 :: (one16 ++ void16)) ∧ Kp W w' := by
    intro g W h
    have := putboxY_ (some ⟨g, 0, none⟩) 2 [(4607182418800017408, 4611686018427387904), (9221120237041090561, 0)] W h (fun j => by
      match j with
      | 0 => exact ⟨by decide, by decide⟩
      | 1 => exact ⟨by decide, by decide⟩
      | j + 2 => exact ⟨by simp, by simp⟩) (by decide)
    rw [show bb [(4607182418800017408, 4611686018427387904), (9221120237041090561, 0)] = 2 :: (one16 ++ void16) from by unfold bb; simp only [fms, List.append_nil, fm_one, fm_nan]; rfl] at this
    exact this
  have HB1 : ∀ (p : Option Addr) (c : Nat) (W : World), 529 ≤ c → Arr W p (33 :: fms (rep 33)) → Calls Try.prog 14 #[.slice p 529 c] W fun e w' => e = .returned (.tuple #[.slice none 0 0, .int .i64 130]) ∧ Kp W w' := by
    intro p c W hc h
    obtain ⟨b, off, rfl, hcell⟩ := h.at (k := 0) (by simp)
    have h0 := hcell 0 (by simp)
    exact getboxH_ b off 529 c 33 (by decide) (by decide) (by decide) W h0 (Or.inl (by decide))
  have HB2 : ∀ (p : Option Addr) (c : Nat) (W : World), 513 ≤ c → Arr W p (32 :: fms (rep 32)) → Calls Try.prog 14 #[.slice p 513 c] W fun e w' => ∃ p' d', e = .returned (.tuple #[.slice p' 32 d', .int .i64 0]) ∧ Kp W w' := by
    intro p c W hc h
    have e : (32 : Int) :: fms (rep 32) = bb (rep 32) := by unfold bb; simp [rep]
    rw [e] at h
    have hl : (rep 32).length = 32 := by simp [rep]
    have hb := bb_back (rep 32) (rep_wq 32) (by rw [hl]; decide)
    have := getbox_ p c 513 (bb (rep 32)) W h (by rw [bb_len, hl]) (bb_wb _ (by rw [hl]; decide)) hc (by decide)
    unfold bE at this
    rw [hb.1, hb.2, rdb_len, hl] at this
    exact this.mono fun e w' ⟨p', d', h1, _, _, _, h5⟩ => ⟨p', d', h1, h5⟩
  have HT : Hid (∀ k, (fms (rep k)).length = 16 * k) := rep_len
  have HTK : Hid ((33 :: fms (rep 33)).drop 1 = fms (rep 33) ∧ (fms (rep 33)).take 512 = fms (rep 32)) := by
    refine ⟨rfl, ?_⟩
    have := rep_succ 32
    rw [← this]
    exact List.take_left' (by rw [rep_len])
  have b1 : Arr (((w.alloc (.cells #[.int .u8 0, .int .u8 0, .int .u8 0, .int .u8 0, .int .u8 0, .int .u8 0, .int .u8 240, .int .u8 63, .int .u8 0, .int .u8 0, .int .u8 0, .int .u8 0, .int .u8 0, .int .u8 0, .int .u8 0, .int .u8 64] 5)).alloc (.cells #[.int .u8 0, .int .u8 0, .int .u8 0, .int .u8 0, .int .u8 0, .int .u8 0, .int .u8 240, .int .u8 127, .int .u8 0, .int .u8 0, .int .u8 0, .int .u8 0, .int .u8 0, .int .u8 0, .int .u8 240, .int .u8 255] 5)).alloc (.cells #[.float .f64 4607182418800017408, .float .f64 4611686018427387904] 25)) (some ⟨w.heap.size, 0, none⟩) one16 := ((arr_lit w one16 5).grown ((Kp.refl _).alloc (.cells #[.int .u8 0, .int .u8 0, .int .u8 0, .int .u8 0, .int .u8 0, .int .u8 0, .int .u8 240, .int .u8 127, .int .u8 0, .int .u8 0, .int .u8 0, .int .u8 0, .int .u8 0, .int .u8 0, .int .u8 240, .int .u8 255] 5))).grown ((Kp.refl _).alloc _)
  have b2 : Arr (((w.alloc (.cells #[.int .u8 0, .int .u8 0, .int .u8 0, .int .u8 0, .int .u8 0, .int .u8 0, .int .u8 240, .int .u8 63, .int .u8 0, .int .u8 0, .int .u8 0, .int .u8 0, .int .u8 0, .int .u8 0, .int .u8 0, .int .u8 64] 5)).alloc (.cells #[.int .u8 0, .int .u8 0, .int .u8 0, .int .u8 0, .int .u8 0, .int .u8 0, .int .u8 240, .int .u8 127, .int .u8 0, .int .u8 0, .int .u8 0, .int .u8 0, .int .u8 0, .int .u8 0, .int .u8 240, .int .u8 255] 5)).alloc (.cells #[.float .f64 4607182418800017408, .float .f64 4611686018427387904] 25)) (some ⟨w.heap.size + 1, 0, none⟩) void16 := by
    have h := (arr_lit (w.alloc (.cells #[.int .u8 0, .int .u8 0, .int .u8 0, .int .u8 0, .int .u8 0, .int .u8 0, .int .u8 240, .int .u8 63, .int .u8 0, .int .u8 0, .int .u8 0, .int .u8 0, .int .u8 0, .int .u8 0, .int .u8 0, .int .u8 64] 5)) void16 5).grown ((Kp.refl _).alloc (.cells #[.float .f64 4607182418800017408, .float .f64 4611686018427387904] 25))
    rw [show (w.alloc (.cells #[.int .u8 0, .int .u8 0, .int .u8 0, .int .u8 0, .int .u8 0, .int .u8 0, .int .u8 240, .int .u8 63, .int .u8 0, .int .u8 0, .int .u8 0, .int .u8 0, .int .u8 0, .int .u8 0, .int .u8 0, .int .u8 64] 5)).heap.size = w.heap.size + 1 from by simp] at h
    exact h
  have l1 : one16.length = 16 := rfl
  have l2 : void16.length = 16 := rfl
  have l17 : (one16 ++ [16]).length = 17 := rfl
  have l18 : (void16 ++ [0]).length = 17 := rfl
  have l33 : (2 :: (one16 ++ void16)).length = 33 := rfl
  generalize one16 = o1 at *
  generalize void16 = o2 at *
  go_enter Try.func3, Try.ntmps3
  go_upto_region 5 with fail
  have sx : Fq.H2 (((w.alloc (.cells #[.int .u8 0, .int .u8 0, .int .u8 0, .int .u8 0, .int .u8 0, .int .u8 0, .int .u8 240, .int .u8 63, .int .u8 0, .int .u8 0, .int .u8 0, .int .u8 0, .int .u8 0, .int .u8 0, .int .u8 0, .int .u8 64] 5)).alloc (.cells #[.int .u8 0, .int .u8 0, .int .u8 0, .int .u8 0, .int .u8 0, .int .u8 0, .int .u8 240, .int .u8 127, .int .u8 0, .int .u8 0, .int .u8 0, .int .u8 0, .int .u8 0, .int .u8 0, .int .u8 240, .int .u8 255] 5)).alloc (.cells #[.float .f64 4607182418800017408, .float .f64 4611686018427387904] 25)) (w.heap.size + 2) (.float .f64 4607182418800017408) (.float .f64 4611686018427387904) := h2trd w _ _ _ _ _ _ _
  have kc : Kp w (((w.alloc (.cells #[.int .u8 0, .int .u8 0, .int .u8 0, .int .u8 0, .int .u8 0, .int .u8 0, .int .u8 240, .int .u8 63, .int .u8 0, .int .u8 0, .int .u8 0, .int .u8 0, .int .u8 0, .int .u8 0, .int .u8 0, .int .u8 64] 5)).alloc (.cells #[.int .u8 0, .int .u8 0, .int .u8 0, .int .u8 0, .int .u8 0, .int .u8 0, .int .u8 240, .int .u8 127, .int .u8 0, .int .u8 0, .int .u8 0, .int .u8 0, .int .u8 0, .int .u8 0, .int .u8 240, .int .u8 255] 5)).alloc (.cells #[.float .f64 4607182418800017408, .float .f64 4611686018427387904] 25)) := (((Kp.refl w).alloc _).alloc _).alloc _
  generalize ((w.alloc (.cells #[.int .u8 0, .int .u8 0, .int .u8 0, .int .u8 0, .int .u8 0, .int .u8 0, .int .u8 240, .int .u8 63, .int .u8 0, .int .u8 0, .int .u8 0, .int .u8 0, .int .u8 0, .int .u8 0, .int .u8 0, .int .u8 64] 5)).alloc (.cells #[.int .u8 0, .int .u8 0, .int .u8 0, .int .u8 0, .int .u8 0, .int .u8 0, .int .u8 240, .int .u8 127, .int .u8 0, .int .u8 0, .int .u8 0, .int .u8 0, .int .u8 0, .int .u8 0, .int .u8 240, .int .u8 255] 5)).alloc (.cells #[.float .f64 4607182418800017408, .float .f64 4611686018427387904] 25) = W0 at sx kc b1 b2 ⊢
  generalize w.heap.size + 2 = B3 at sx ⊢
  generalize w.heap.size + 1 = B2 at b2 ⊢
  generalize w.heap.size = B1 at b1 ⊢
  have a1 := b1
  have a2 := b2
  clear b1 b2
  obtain ⟨x0, x1, x2, x3⟩ := id sx
  go_wp2_with (first | (go_at_call 9; refine (awake_ _).mono ?_; rintro e wa ⟨rfl, ga⟩; replace a1 := a1.grown ga; replace a2 := a2.grown ga; replace sx := Fq.H2.keep sx ga; replace kc := Kp.trans kc ga; clear x0 x1 x2 x3; obtain ⟨x0, x1, x2, x3⟩ := id sx; clear ga) | (go_at_call_of 11 (Value.agg #[.float .f64 4607182418800017408, .float .f64 4611686018427387904]); refine (HP1 _).mono ?_; rintro e wb ⟨gp, rfl, hgp, hRp, g_⟩; replace a1 := a1.grown g_; replace a2 := a2.grown g_; replace sx := Fq.H2.keep sx g_; replace kc := Kp.trans kc g_; clear x0 x1 x2 x3; obtain ⟨x0, x1, x2, x3⟩ := id sx; have hs := HS1 _ _ 16 16 _ (arr_all hRp l1) a1; clear g_) | (go_at_call_of 11 (Value.agg #[.float .f64 4611686018427387904, .float .f64 4607182418800017408]); refine (HP2 _).mono ?_; rintro e wb ⟨gp, rfl, hgp, hRp, g_⟩; replace a1 := a1.grown g_; replace a2 := a2.grown g_; replace sx := Fq.H2.keep sx g_; replace kc := Kp.trans kc g_; clear x0 x1 x2 x3; obtain ⟨x0, x1, x2, x3⟩ := id sx; have hs := HS2 _ _ 16 16 _ (arr_all hRp l2) a2; clear g_) | (go_at_call 10; refine hs.mono ?_; rintro e wc ⟨rfl, gc⟩; clear hs; replace a1 := a1.grown gc; replace a2 := a2.grown gc; replace sx := Fq.H2.keep sx gc; replace kc := Kp.trans kc gc; clear x0 x1 x2 x3; obtain ⟨x0, x1, x2, x3⟩ := id sx; clear gc) | (go_at_call_of 12 (Value.int .i64 16); refine (HD1 _).mono ?_; rintro e wd ⟨gd, rfl, hgd, hRd, g_⟩; replace a1 := a1.grown g_; replace a2 := a2.grown g_; replace sx := Fq.H2.keep sx g_; replace kc := Kp.trans kc g_; clear x0 x1 x2 x3; obtain ⟨x0, x1, x2, x3⟩ := id sx; have ad := arr_all hRd l17; clear g_) | (go_at_call_of 12 (Value.int .i64 7); refine (HD2 _).mono ?_; rintro e wd ⟨gd, rfl, hgd, hRd, g_⟩; replace a1 := a1.grown g_; replace a2 := a2.grown g_; replace sx := Fq.H2.keep sx g_; replace kc := Kp.trans kc g_; clear x0 x1 x2 x3; obtain ⟨x0, x1, x2, x3⟩ := id sx; have ad := arr_all hRd l18; clear g_) | (go_at_call_of 13 (Value.slice (some ⟨B1, 0, none⟩) 16 16); refine (HC1 _ _ _ a1).mono ?_; rintro e wv ⟨vv, rfl, ov, gv⟩; obtain ⟨va, wz, hap, oap, kap⟩ := app_run (wv.alloc (.cells #[.int .u8 16] 5)) _ vv o1 [16] wv.heap.size 0 1 1 (ov.kp ((Kp.refl wv).alloc _)) (arr_one wv 16) rfl (by rw [l1]; decide) (Nat.le_trans (Below.size gv) (by simp)); have kz := kap _ (gv.alloc _) (own_block ov); replace a1 := a1.grown kz; replace a2 := a2.grown kz; replace sx := Fq.H2.keep sx kz; replace kc := Kp.trans kc kz; clear x0 x1 x2 x3; obtain ⟨x0, x1, x2, x3⟩ := id sx; replace ad := ad.grown kz; obtain ⟨pa, ca, hva, aa, -⟩ := oap.arr; rw [show (o1 ++ [(16 : Int)]).length = 17 from by rw [List.length_append, l1]; rfl] at hva; subst hva; have hs := HS3 _ _ 17 ca _ ad aa; clear kap kz gv) | (go_at_call_of 13 (Value.slice (some ⟨B2, 0, none⟩) 16 16); refine (HC2 _ _ _ a2).mono ?_; rintro e wv ⟨vv, rfl, ov, gv⟩; obtain ⟨va, wz, hap, oap, kap⟩ := app_run (wv.alloc (.cells #[.int .u8 0] 5)) _ vv o2 [0] wv.heap.size 0 1 1 (ov.kp ((Kp.refl wv).alloc _)) (arr_one wv 0) rfl (by rw [l2]; decide) (Nat.le_trans (Below.size gv) (by simp)); have kz := kap _ (gv.alloc _) (own_block ov); replace a1 := a1.grown kz; replace a2 := a2.grown kz; replace sx := Fq.H2.keep sx kz; replace kc := Kp.trans kc kz; clear x0 x1 x2 x3; obtain ⟨x0, x1, x2, x3⟩ := id sx; replace ad := ad.grown kz; obtain ⟨pa, ca, hva, aa, -⟩ := oap.arr; rw [show (o2 ++ [(0 : Int)]).length = 17 from by rw [List.length_append, l2]; rfl] at hva; subst hva; have hs := HS4 _ _ 17 ca _ ad aa; clear kap kz gv) | (at_builtin; refine wpList_app _ (by rfl) _ _ 22 rfl _ _ _ _ rfl rfl hap ?_; clear hap))
  have ol : Own (wc.alloc (.cells #[.int .u8 33] 5)) wc.heap.size (.slice (some ⟨wc.heap.size, 0, none⟩) 1 1) (33 :: fms (rep 0)) := own_lit wc [33] (by decide)
  have kl : Kp wc (wc.alloc (.cells #[.int .u8 33] 5)) := (Kp.refl wc).alloc _
  have HA1 : Hid (Arr wc (some ⟨B1, 0, none⟩) o1) := a1
  have HA2 : Hid (Arr wc (some ⟨B2, 0, none⟩) o2) := a2
  have HSX : Hid (Fq.H2 wc B3 (.float .f64 4607182418800017408) (.float .f64 4611686018427387904)) := sx
  clear HP1 HP2 HD1 HD2 HS1 HS2 HS3 HS4 HC1 HC2 x0 x1 x2 x3 sx a1 a2 l17 l18
  go_loopw [4, 5] (fun a i wr => ∃ (v : Value) (j : Nat), v = a ∧ j ≤ 33 ∧ i = .int .i64 j ∧ Own wr wc.heap.size v (33 :: fms (rep j)) ∧ Kp wc wr) (fun _ i _ => 33 - (intOf i).toNat)
  case atStart => exact ⟨_, 0, rfl, Nat.zero_le _, rfl, ol, kl⟩
  case round =>
    obtain ⟨v, j, rfl, hj, rfl, hown, hkp⟩ := hrel
    clear ol kl
    by_cases cj : j < 33
    · obtain ⟨v', w2, hap, oap, kap⟩ := app_run wr wc.heap.size v (33 :: fms (rep j)) o1 B1 0 16 16 hown (HA1.out.grown hkp) l1 (by rw [List.length_cons, HT.out]; omega) hkp.size
      have hk2 := kap wc hkp (own_block hown)
      rw [List.cons_append, HRP.out j] at oap
      clear HA1 HA2 HSX HRP HT HTK HPB HB1 HB2 HS5 hown kap hkp
      go_wp2_with (first | (at_builtin; refine wpList_app _ (by rfl) _ _ 22 rfl _ _ _ _ rfl rfl hap ?_; clear hap))
      exact ⟨⟨_, j + 1, rfl, by omega, by go_num, oap, hk2⟩, by simp [intOf]; omega⟩
    · have hj33 : j = 33 := by omega
      subst hj33
      obtain ⟨p4, c4, rfl, a4, h4⟩ := hown.arr
      have l529 : (33 :: fms (rep 33)).length = 529 := by rw [List.length_cons, HT.out]
      rw [l529] at h4
      rw [l529]
      obtain ⟨b4, off4, rfl, hc4⟩ := a4.at (k := 0) (by rw [l529]; decide)
      have hb1 := HB1 _ c4 wr h4 a4
      have hsl := slp b4 off4 1 512 529 c4 (by decide) h4 (by decide)
      have a5 : Arr wr (some ⟨b4, off4 + 1, none⟩) (fms (rep 32)) := by
        have := Arr.part hc4 1 512
        rw [HTK.out.1, HTK.out.2] at this
        exact this
      have l512 : (fms (rep 32)).length = 512 := HT.out 32
      clear hown HRP HT HTK HB1 a4 hc4 l529
      go_upto_region 20 with (first | (go_at_call_of 14 (Value.slice (some ⟨b4, off4, none⟩) 529 c4); refine hb1.mono ?_; rintro e wh ⟨rfl, gh⟩; obtain ⟨va, wz, hap, oap, kap⟩ := app_run (wh.alloc (.cells #[.int .u8 32] 5)) wh.heap.size (.slice (some ⟨wh.heap.size, 0, none⟩) 1 1) [32] (fms (rep 32)) b4 (off4 + 1) 512 (c4 - 1) (own_lit wh [32] (by decide)) (a5.grown (gh.alloc _)) l512 (by decide) (by simp); have kz : Kp wh wz := kap wh ((Kp.refl wh).alloc _) (fun k hk => by simp [Value.ownBlock] at hk; omega); have kz2 : Kp wc wz := Kp.trans (Kp.trans hkp gh) kz; obtain ⟨pa, ca, hva, aa, hca⟩ := oap.arr; rw [show ([(32 : Int)] ++ fms (rep 32)).length = 513 from by rw [List.length_append, l512]; rfl] at hva hca; subst hva; have hb2 := HB2 pa ca wz hca aa) | (at_builtin; refine wpList_app _ (by rfl) _ _ 22 rfl _ _ _ _ rfl rfl hap ?_; clear hap) | (go_at_call_of 14 (Value.slice pa 513 ca); refine hb2.mono ?_; rintro e wg ⟨p5, d5, rfl, g5⟩; have kg : Kp wc wg := Kp.trans kz2 g5))
      obtain ⟨x0, x1, x2, x3⟩ := Fq.H2.keep HSX.out kg
      clear hb1 hb2 HB2 a5 kz kz2 kap g5 gh oap aa
      go_region_held3 (fun w' => w'.cell? ⟨B3, 0, none⟩ = some (.float .f64 4607182418800017408) ∧ w'.cell? ⟨B3, 1, none⟩ = some (.float .f64 4611686018427387904)) (refine ⟨kkeep (W := wg) ?_ x0, kkeep (W := wg) ?_ x1⟩ <;> ((repeat (first | with_reducible exact k8 | with_reducible exact Kp.refl _ | with_reducible refine Kp.drew ?_ | with_reducible refine Kp.alloc ?_ _)); done)) (first | (go_at_call 15; refine (HPB _ _ ?qg).mono ?_; (case qg => first | exact agl _ | exact (agl _).grown ((Kp.refl _).drew)); rintro e v8 ⟨G8, rfl, hG8, hR8, g8⟩; have k8 : Kp wg v8 := Kp.trans ?q8 g8; (case q8 => ((repeat (first | with_reducible exact k8 | with_reducible exact Kp.refl _ | with_reducible refine Kp.drew ?_ | with_reducible refine Kp.alloc ?_ _)); done))) | (go_at_call 16; refine (nan9_ _).mono ?_; rintro e w' ⟨rfl, rfl⟩))
      all_goals (
        obtain ⟨va, wz, hap, oap, kap⟩ := app_run (v8.alloc (.cells #[.int .u8 2] 5)) v8.heap.size (.slice (some ⟨v8.heap.size, 0, none⟩) 1 1) [2] o1 B1 0 16 16 (own_lit v8 [2] (by decide)) (HA1.out.grown ((Kp.trans kg k8).alloc _)) l1 (by decide) (by simp)
        have kz : Kp v8 wz := kap v8 ((Kp.refl v8).alloc _) (fun k hk => by simp [Value.ownBlock] at hk; omega)
        obtain ⟨vb, wy, hap2, oap2, kap2⟩ := app_run wz v8.heap.size va ([2] ++ o1) o2 B2 0 16 16 oap (HA2.out.grown (Kp.trans (Kp.trans kg k8) kz)) l2 (by rw [List.length_append, l1]; decide) kz.size
        have ky : Kp v8 wy := kap2 v8 kz (own_block oap)
        obtain ⟨pb_, cb_, hvb, ab_, -⟩ := oap2.arr
        rw [show ([(2 : Int)] ++ o1 ++ o2).length = 33 from by rw [List.length_append, List.length_append, l1, l2]; rfl] at hvb
        subst hvb
        have ab2 : Arr wy pb_ (2 :: (o1 ++ o2)) := ab_
        have hs := HS5 _ _ 33 cb_ wy ((arr_all hR8 l33).grown ky) ab2
        have kf : Kp w wy := Kp.trans (Kp.trans (Kp.trans kc kg) k8) ky
        clear kap kap2 oap oap2 ab_ ab2 HA1 HA2 HSX HPB HS5 hR8 x0 x1 x2 x3 kz ky
        go_wp2_with (first | (at_builtin; refine wpList_app _ (by rfl) _ _ 22 rfl _ _ _ _ rfl rfl hap ?_; clear hap) | (at_builtin; refine wpList_app _ (by rfl) _ _ 22 rfl _ _ _ _ rfl rfl hap2 ?_; clear hap2) | (go_at_call 10; refine hs.mono ?_; rintro e w9 ⟨rfl, g9⟩))
        exact bodyPost_ret (v := .bool true) (by simp [results, Try.results3, go_sem]) rfl ⟨rfl, Kp.trans kf g9⟩)
end B8
end Go.Proofs.Ytbcjhmdkpkmieaa
