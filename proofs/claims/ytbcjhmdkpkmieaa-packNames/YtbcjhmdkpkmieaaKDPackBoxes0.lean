import Derived.Test.YtbcjhmdkpkmieaaKDPackOpens0
import Derived.WalkKit
import Derived.ProofKit
import Derived.RowKit3
import Derived.WalkSpells
import Derived.StillTactics
import Derived.Deep.QuietTactic
import Derived.BigQuiet
import Derived.Below
import Derived.Deep.OwnRows
import Derived.OwnWalk
import Derived.Lib.BitFns
import Derived.Deep.RegionHeld3
import Derived.Deep.CutRange
import Derived.Deep.DeepCutAuto
namespace Go.Proofs.Ytbcjhmdkpkmieaa
open Go.RowKit
open Go
namespace B8
theorem Own.of_row {w : World} {base g n k : Nat} {xs : List Int} (h : Rw w g n xs) (hb : base ≤ g) (hk : k ≤ n) (hx : xs.length = n) (hn : n ≤ maxLen) : Own w base (.slice (some ⟨g, 0, none⟩) k n) (xs.take k) := by
  have hl : (xs.take k).length = k := by rw [List.length_take]; omega
  refine ⟨by simp, Or.inr ?_⟩
  rw [hl]
  obtain ⟨cur, h1, h2, h3⟩ := h
  refine ⟨g, n, cur, rfl, hb, h1, hk, hn, by omega, ?_⟩
  rw [Nat.mul_one]
  apply List.ext_getElem?
  intro j
  by_cases c : j < k
  · have := h3 j (by omega)
    simp [c, List.getElem?_map]
    simpa [List.getD, show j < xs.length from by omega] using this
  · simp [List.getElem?_take, c]
end B8
end Go.Proofs.Ytbcjhmdkpkmieaa
namespace Go.Proofs.Ytbcjhmdkpkmieaa
open Go.RowKit
open Go
namespace B8
theorem take_push2 (ps : List (Nat × Nat)) (k : Nat) (h : k < ps.length) : ps.take k ++ [((ps.getD k (0, 0)).1, (ps.getD k (0, 0)).2)] = ps.take (k + 1) := by
  have e : ps.getD k (0, 0) = ps[k] := by simp [List.getD, h]
  rw [List.take_add_one, List.getElem?_eq_getElem h, e]
  rfl
end B8
end Go.Proofs.Ytbcjhmdkpkmieaa
namespace Go.Proofs.Ytbcjhmdkpkmieaa
open Go.RowKit
open Go
namespace B8
/-- an interval's form, as it is read; a box's -/
def fm (q : Nat × Nat) : List Int := by8 (Fq.rlo q.1 q.2) ++ by8 (Fq.rhi q.1 q.2)
def fms : List (Nat × Nat) → List Int
  | [] => []
  | q :: r => fm q ++ fms r
def bb (ps : List (Nat × Nat)) : List Int := (ps.length : Int) :: fms ps
def Wq (ps : List (Nat × Nat)) : Prop := ∀ j, (ps.getD j (0, 0)).1 < 18446744073709551616 ∧ (ps.getD j (0, 0)).2 < 18446744073709551616
theorem fm_len (q : Nat × Nat) : (fm q).length = 16 := by unfold fm; rw [List.length_append, by8_len, by8_len]
theorem fms_len : ∀ ps, (fms ps).length = 16 * ps.length
  | [] => rfl
  | q :: r => by simp only [fms, List.length_append, fm_len, fms_len r, List.length_cons]; omega
theorem bb_len (ps : List (Nat × Nat)) : (bb ps).length = 1 + 16 * ps.length := by unfold bb; rw [List.length_cons, fms_len]; omega
theorem fms_app : ∀ ps qs, fms (ps ++ qs) = fms ps ++ fms qs
  | [], qs => rfl
  | q :: r, qs => by simp only [List.cons_append, fms, fms_app r qs, List.append_assoc]
theorem fms_get : ∀ (ps : List (Nat × Nat)) (k t : Nat), k < ps.length → t < 16 → (fms ps).getD (16 * k + t) 0 = (fm (ps.getD k (0, 0))).getD t 0
  | [], k, t, h, _ => by simp at h
  | q :: r, 0, t, _, ht => by
    rw [Nat.mul_zero, Nat.zero_add]
    simp only [fms, List.getD, List.getElem?_cons_zero, Option.getD_some]
    rw [List.getElem?_append_left (by rw [fm_len]; exact ht)]
  | q :: r, k + 1, t, h, ht => by
    have ih := fms_get r k t (by simpa using h) ht
    rw [List.getD_cons_succ, ← ih]
    simp only [fms, List.getD]
    rw [List.getElem?_append_right (by rw [fm_len]; omega), fm_len, show 16 * (k + 1) + t - 16 = 16 * k + t from by omega]
theorem bb_get (ps : List (Nat × Nat)) (k t : Nat) (hk : k < ps.length) (ht : t < 16) : (bb ps).getD (1 + 16 * k + t) 0 = (fm (ps.getD k (0, 0))).getD t 0 := by
  rw [← fms_get ps k t hk ht, show 1 + 16 * k + t = (16 * k + t) + 1 from by omega]
  unfold bb
  rw [List.getD_cons_succ]
theorem fms_take (ps : List (Nat × Nat)) (k : Nat) (h : k < ps.length) : fms (ps.take k) ++ fm ((ps.getD k (0, 0)).1, (ps.getD k (0, 0)).2) = fms (ps.take (k + 1)) := by
  rw [← take_push2 ps k h, fms_app]
  simp [fms]
theorem putn_ (a b : Nat) (ha : a < 18446744073709551616) (hb : b < 18446744073709551616) (w : World) : Calls Try.prog 11 #[.agg #[.float .f64 a, .float .f64 b]] w fun e w' => ∃ g, e = .returned (.slice (some ⟨g, 0, none⟩) 16 16) ∧ w.heap.size ≤ g ∧ Rw w' g 16 (fm (a, b)) ∧ Kp w w' := put_ a b _ _ (Fq.read_ a b ha hb) w
theorem rputn_ (a b : Nat) (ha : a < 18446744073709551616) (hb : b < 18446744073709551616) (w : World) : Calls Try.prog 18 #[.agg #[.int .u64 ((a : Nat) : Int), .int .u64 ((b : Nat) : Int)]] w fun e w' => ∃ v, e = .returned v ∧ Own w' w.heap.size v (fm (a, b)) ∧ Kp w w' := by
  obtain ⟨L, H, hx⟩ := Rd.ex a b ha hb
  have h := rput_ a b L H hx w
  rw [← hx.2.2.2.1, ← hx.2.2.2.2] at h
  exact h
end B8
end Go.Proofs.Ytbcjhmdkpkmieaa
namespace Go.Proofs.Ytbcjhmdkpkmieaa
open Go.RowKit
open Go
namespace B8
set_option maxRecDepth 20000 in
set_option maxHeartbeats 1000000 in
theorem rputboxN_ (p : Option Addr) (N c : Nat) (h : 32 < N) (w : World) : Calls Try.prog 29 #[.slice p N c] w fun e w' => e = .returned (.tuple #[.slice none 0 0, .int .i64 2]) ∧ Kp w w' := by
  have h2 : (32 : Int) < (N : Int) := by omega
  clear h
  go_enter Try.func29, Try.ntmps29
  go_wp2
  exact bodyPost_ret (v := .tuple #[.slice none 0 0, .int .i64 2]) (by simp [results, Try.results29, go_sem]) rfl ⟨rfl, Kp.refl _⟩
set_option maxRecDepth 20000 in
set_option maxHeartbeats 1000000 in
theorem rputboxY_ (p : Option Addr) (c : Nat) (ps : List (Nat × Nat)) (w : World) (hx : AG ULV w p ps) (hq : Wq ps) (lx : ps.length ≤ 32) : Calls Try.prog 29 #[.slice p ps.length c] w fun e w' => ∃ v, e = .returned (.tuple #[v, .int .i64 0]) ∧ Own w' w.heap.size v (bb ps) ∧ Kp w w' := by
  obtain ⟨N, hN⟩ : ∃ N, N = ps.length := ⟨_, rfl⟩
  rw [← hN] at lx ⊢
  have HX : Hid (AG ULV w p ps ∧ Wq ps) := ⟨hx, hq⟩
  have HN : Hid (N = ps.length) := hN
  have hwN : IntKind.u8.wrap (N : Int) = (N : Int) := by rw [IntKind.wrap_u8]; omega
  have n2 : ¬ (32 : Int) < (N : Int) := by omega
  have hr := (World.rowIs_alloc w #[.int .u8 (N : Int)] 5 (fun j => .int .u8 ([(N : Int)].getD j 0)) (fun i hi => by
    have : i = 0 := by simp at hi; omega
    subst this; rfl))
  have ho0 : Own (w.alloc (.cells #[.int .u8 (N : Int)] 5)) w.heap.size (.slice (some ⟨w.heap.size, 0, none⟩) 1 1) ((N : Int) :: fms (ps.take 0)) := by
    have := Own.of_row (xs := [(N : Int)]) (k := 1) hr (Nat.le_refl _) (Nat.le_refl _) rfl (show 1 ≤ maxLen from by unfold maxLen; omega)
    simpa [fms] using this
  have hk0 : Kp w (w.alloc (.cells #[.int .u8 (N : Int)] 5)) := (Kp.refl w).alloc _
  clear hN hx hq hr
  go_enter Try.func29, Try.ntmps29
  go_wp2
  go_loopw [4, 5] (fun a i wr => ∃ (v : Value) (j : Nat), v = a ∧ j ≤ N ∧ i = .int .i64 j ∧ Own wr w.heap.size v ((N : Int) :: fms (ps.take j)) ∧ Kp w wr) (fun _ i _ => N - (intOf i).toNat)
  case atStart => exact ⟨_, 0, rfl, Nat.zero_le _, rfl, ho0, hk0⟩
  case round =>
    obtain ⟨v, j, rfl, hj, rfl, hown, hkp⟩ := hrel
    have hN := HN.out
    clear ho0 hk0
    by_cases cj : j < N
    · obtain ⟨b, off, rfl, hc2⟩ := HX.out.1.at (k := j) (by omega)
      have hqj := HX.out.2 j
      have e1 : wr.cell? ⟨b, off + j * 2, none⟩ = some (.int .u64 (((ps.getD j (0, 0)).1 : Nat) : Int)) := kkeep hkp (hc2 j (by omega)).1
      have e2 : wr.cell? ⟨b, off + j * 2 + 1, none⟩ = some (.int .u64 (((ps.getD j (0, 0)).2 : Nat) : Int)) := kkeep hkp (hc2 j (by omega)).2
      have hput := rputn_ (ps.getD j (0, 0)).1 (ps.getD j (0, 0)).2 hqj.1 hqj.2
      have HP : Hid (fms (ps.take j) ++ fm ((ps.getD j (0, 0)).1, (ps.getD j (0, 0)).2) = fms (ps.take (j + 1))) := fms_take ps j (by omega)
      have hlen : ((N : Int) :: fms (ps.take j)).length = 1 + 16 * j := by rw [List.length_cons, fms_len, List.length_take]; omega
      obtain ⟨pv, cv, rfl, av, -⟩ := hown.arr
      rw [hlen]
      have hjn : ∀ (q : Option Addr) (d : Nat) (W : World), Arr W pv ((N : Int) :: fms (ps.take j)) → Arr W q (fm ((ps.getD j (0, 0)).1, (ps.getD j (0, 0)).2)) → Calls Try.prog 43 #[.slice pv (1 + 16 * j) cv, .slice q 16 d] W fun e w' => ∃ v, e = .returned v ∧ Own w' W.heap.size v ((N : Int) :: fms (ps.take (j + 1))) ∧ Kp W w' := by
        intro q d W h1 h2
        have := joined_ pv q cv d _ _ W h1 h2 (by rw [hlen]; omega) (by rw [fm_len]; decide)
        rw [hlen, fm_len, List.cons_append, HP.out] at this
        exact this
      generalize (((ps.getD j (0, 0)).1 : Nat) : Int) = Z1 at e1 hput
      generalize (((ps.getD j (0, 0)).2 : Nat) : Int) = Z2 at e2 hput
      have hF := fm_len ((ps.getD j (0, 0)).1, (ps.getD j (0, 0)).2)
      generalize fm ((ps.getD j (0, 0)).1, (ps.getD j (0, 0)).2) = F9 at hput hjn HP hF
      clear hc2 hqj HX HN hN hown HP hlen
      go_wp2_with (first | (go_at_call 18; refine (hput _).mono ?_; rintro e w1 ⟨v1, rfl, o1, g1⟩; have hk1 := Kp.trans hkp g1; obtain ⟨p1, c1, rfl, a1, -⟩ := o1.arr; rw [hF]; replace av := av.grown g1) | (go_at_call 43; refine (hjn _ _ _ av a1).mono ?_; rintro e w2 ⟨v2, rfl, o2, g2⟩; have hk2 := Kp.trans hk1 g2; replace o2 := o2.mono hk1.size))
      exact ⟨⟨_, j + 1, rfl, by omega, by go_num, o2, hk2⟩, by simp [intOf]; omega⟩
    · have hjN : j = N := by omega
      rw [List.take_of_length_le (by omega), show ((N : Int) :: fms ps) = bb ps from by unfold bb; rw [← hN]] at hown
      clear HX HN hN
      go_wp2
      exact bodyPost_ret (v := .tuple #[v, .int .i64 0]) (by simp [results, Try.results29, go_sem] <;> simp only [*]) rfl ⟨v, rfl, hown, hkp⟩
end B8
end Go.Proofs.Ytbcjhmdkpkmieaa
namespace Go.Proofs.Ytbcjhmdkpkmieaa
open Go.RowKit
open Go
namespace B8
theorem setCells_far {g b x : Nat} (hb : b ≠ g) : ∀ (vs : List Value) (o : Nat) (w : World), (w.setCells g o vs).cell? ⟨b, x, none⟩ = w.cell? ⟨b, x, none⟩
  | [], _, _ => rfl
  | _ :: vs, o, _ => (setCells_far hb vs (o + 1) _).trans (World.cell?_setCell_far _ _ _ _ (fun h => hb h.symm))
theorem copy8b (w : World) (g n o m c c' : Nat) (p : Option Addr) (xs : List Int) (f : Nat → Value) (hr : w.rowIs g 5 n f) (hx : Arr w p xs) (hl : xs.length = m) (ho : o + m ≤ n) :
    ∃ w2, (∀ ty, (Builtin.copy_ #[22, 22] ty #[.slice (some ⟨g, o, none⟩) m c', .slice p m c]).run Try.prog w = .ok (goInt m) w2) ∧
      w2.rowIs g 5 n (fun j => if o ≤ j ∧ j < o + m then .int .u8 (xs.getD (j - o) 0) else f j) ∧ (∀ W : World, W.heap.size ≤ g → Kp W w → Kp W w2) ∧ (∀ b x v, b ≠ g → w.cell? ⟨b, x, none⟩ = some v → w2.cell? ⟨b, x, none⟩ = some v) := by
  subst hl
  rcases hx with rfl | ⟨b, off, rfl, hc⟩
  · refine ⟨w, fun ty => run_copy_none w 22 22 ty 5 _ _ _ _ _ _ Try.underlying22 siz8 (by simp), hr.congr (fun j _ => by rw [if_neg (by simp)]), fun W _ h => h, fun _ _ _ _ h => h⟩
  · refine ⟨w.setCells g o (xs.map (Value.int .u8)), fun ty => ?_, ?_, fun W hW h => setCells_kp hW _ _ _ h, fun b x v hb h => (setCells_far hb _ _ _).trans h⟩
    · have := run_copy_cells (P := Try.prog) w 22 22 ty 5 g o xs.length c' ⟨b, off, none⟩ xs.length c (xs.map (Value.int .u8)) Try.underlying22 siz8 (by simp)
        (fun j v hv => by
          have hj : j < xs.length := by
            have := List.getElem?_eq_some_iff.1 hv
            simpa using this.1
          rw [addr_add, hc j hj]
          simpa [List.getD, hj] using hv)
        (fun j hj => by rw [hr.cell (by simp at hj; omega)]; rfl) (fun j _ => hr.frozen _)
        (fun v hv => by obtain ⟨x, _, rfl⟩ := List.mem_map.1 hv; rfl)
      simpa using this
    · refine World.rowIs.congr (setCells_row (xs.map (Value.int .u8)) o w f hr) (fun j _ => ?_)
      by_cases c : o ≤ j ∧ j < o + xs.length
      · rw [if_pos c, if_pos (by simpa using c)]; simp [List.getD, show j - o < xs.length from by omega]
      · rw [if_neg c, if_neg (by simpa using c)]
set_option maxRecDepth 20000 in
set_option maxHeartbeats 1000000 in
theorem putboxN_ (p : Option Addr) (N c : Nat) (h : 32 < N) (w : World) : Calls Try.prog 15 #[.slice p N c] w fun e w' => e = .returned (.tuple #[.slice none 0 0, .int .i64 2]) ∧ Kp w w' := by
  have h2 : (32 : Int) < (N : Int) := by omega
  clear h
  go_enter Try.func15, Try.ntmps15
  go_wp2
  exact bodyPost_ret (v := .tuple #[.slice none 0 0, .int .i64 2]) (by simp [results, Try.results15, go_sem]) rfl ⟨rfl, Kp.refl _⟩
set_option maxRecDepth 20000 in
set_option maxHeartbeats 2000000 in
theorem putboxY_ (p : Option Addr) (c : Nat) (ps : List (Nat × Nat)) (w : World) (hx : AG FLV w p ps) (hq : Wq ps) (lx : ps.length ≤ 32) : Calls Try.prog 15 #[.slice p ps.length c] w fun e w' => ∃ G, e = .returned (.tuple #[.slice (some ⟨G, 0, none⟩) (1 + 16 * ps.length) (1 + 16 * ps.length), .int .i64 0]) ∧ w.heap.size ≤ G ∧ Rw w' G (1 + 16 * ps.length) (bb ps) ∧ Kp w w' := by
  obtain ⟨N, hN⟩ : ∃ N, N = ps.length := ⟨_, rfl⟩
  obtain ⟨M, hM⟩ : ∃ M, M = 1 + 16 * N := ⟨_, rfl⟩
  rw [← hN] at lx ⊢
  rw [← hM]
  have HX : Hid (AG FLV w p ps ∧ Wq ps) := ⟨hx, hq⟩
  have HN : Hid (N = ps.length ∧ M = 1 + 16 * N) := ⟨hN, hM⟩
  have hwN : IntKind.u8.wrap (N : Int) = (N : Int) := by rw [IntKind.wrap_u8]; omega
  have n2 : ¬ (32 : Int) < (N : Int) := by omega
  have hbl := boxlen_ N (by omega)
  rw [← hM] at hbl
  have hmk := mk8 M (by omega)
  have hM0 : 0 < M := by omega
  have hr0 : (w.alloc (.cells ((madeCells #[.int .u8 0] M).setIfInBounds 0 (.int .u8 (N : Int))) 5)).rowIs w.heap.size 5 M (fun j => .int .u8 (if j < 1 + 16 * 0 then (bb ps).getD j 0 else 0)) := by
    have h := World.rowIs_alloc w ((madeCells #[.int .u8 0] M).setIfInBounds 0 (.int .u8 (N : Int))) 5 (fun j => .int .u8 (if j < 1 + 16 * 0 then (bb ps).getD j 0 else 0)) (fun i hi => by
      rw [Array.size_setIfInBounds, size_madeCells] at hi
      by_cases c0 : i = 0
      · subst c0
        rw [Array.getElem?_setIfInBounds_self_of_lt (by rw [size_madeCells]; exact hi), if_pos (by omega), hN]; rfl
      · rw [Array.getElem?_setIfInBounds_ne (by omega), if_neg (by omega)]
        simp [madeCells, hi, Nat.mod_one])
    rw [Array.size_setIfInBounds, size_madeCells] at h
    exact h
  have e00 := (World.rowIs_made w (.int .u8 0) M 5).cell (i := 0) hM0
  have f00 := (World.rowIs_made w (.int .u8 0) M 5).frozen 0
  have hk0 : Kp w (w.alloc (.cells ((madeCells #[.int .u8 0] M).setIfInBounds 0 (.int .u8 (N : Int))) 5)) := (Kp.refl w).alloc _
  obtain ⟨G, hG⟩ : ∃ G, G = w.heap.size := ⟨_, rfl⟩
  rw [← hG] at hr0
  have HG : Hid (w.heap.size ≤ G) := by rw [hG]; exact Nat.le_refl _
  clear hN hM hx hq
  go_enter Try.func15, Try.ntmps15
  go_wp2_with (first | (go_at_call 37; refine (hbl _).mono ?_; rintro e w' ⟨rfl, hw9⟩; rw [hw9]; clear hw9))
  rw [← hG]
  generalize w.alloc (.cells ((madeCells #[.int .u8 0] M).setIfInBounds 0 (.int .u8 (N : Int))) 5) = w9 at hr0 hk0 ⊢
  clear hG e00 f00 hmk hbl
  go_loopw [21] (fun i wr => ∃ k : Nat, k ≤ N ∧ i = .int .i64 k ∧ wr.rowIs G 5 M (fun j => .int .u8 (if j < 1 + 16 * k then (bb ps).getD j 0 else 0)) ∧ Kp w wr) (fun i _ => N - (intOf i).toNat)
  case atStart => exact ⟨0, Nat.zero_le _, rfl, hr0, hk0⟩
  case round =>
    obtain ⟨k, hk, rfl, hrow, hkp⟩ := hrel
    clear hr0 hk0
    obtain ⟨hN, hM⟩ := HN.out
    by_cases ck : k < N
    · obtain ⟨b, off, rfl, hc2⟩ := HX.out.1.at (k := k) (by omega)
      have hqj := HX.out.2 k
      have e1 : wr.cell? ⟨b, off + k * 2, none⟩ = some (.float .f64 (ps.getD k (0, 0)).1) := kkeep hkp (hc2 k (by omega)).1
      have e2 : wr.cell? ⟨b, off + k * 2 + 1, none⟩ = some (.float .f64 (ps.getD k (0, 0)).2) := kkeep hkp (hc2 k (by omega)).2
      have hput := putn_ (ps.getD k (0, 0)).1 (ps.getD k (0, 0)).2 hqj.1 hqj.2
      have hF := fm_len ((ps.getD k (0, 0)).1, (ps.getD k (0, 0)).2)
      have HB : Hid (∀ t, t < 16 → (bb ps).getD (1 + 16 * k + t) 0 = (fm ((ps.getD k (0, 0)).1, (ps.getD k (0, 0)).2)).getD t 0) := fun t ht => bb_get ps k t (by omega) ht
      have hpart := part_ G 0 M M k (by omega) (by omega)
      rw [Nat.zero_add] at hpart
      generalize (ps.getD k (0, 0)).1 = Y1 at e1 hput hF HB
      generalize (ps.getD k (0, 0)).2 = Y2 at e2 hput hF HB
      generalize fm (Y1, Y2) = F9 at hput hF HB
      have hGw := HG.out
      have hkM : 1 + 16 * k + 16 ≤ M := by omega
      clear hc2 hqj HX hN hM HN HG
      go_upto_region 8 with fail
      have sx := (Fq.H2.new wr (.float .f64 Y1) (.float .f64 Y2) 25)
      have hkW := hkp.alloc (.cells #[.float .f64 Y1, .float .f64 Y2] 25)
      have hrowW := rowIs_grown hrow ((Kp.refl wr).alloc (.cells #[.float .f64 Y1, .float .f64 Y2] 25))
      have hBG : wr.heap.size ≠ G := by have := World.rowIs.lt hrow; omega
      generalize wr.alloc (.cells #[.float .f64 Y1, .float .f64 Y2] 25) = W at sx hkW hrowW ⊢
      generalize wr.heap.size = B at sx hBG ⊢
      obtain ⟨x0, x1, x2, x3⟩ := id sx
      clear hrow hkp e1 e2 sx
      go_region_held3 (fun w' => w'.cell? ⟨B, 0, none⟩ = some (.float .f64 Y1) ∧ w'.cell? ⟨B, 1, none⟩ = some (.float .f64 Y2)) (first | (refine ⟨kkeep (W := W) ?_ x0, kkeep (W := W) ?_ x1⟩ <;> ((repeat (first | with_reducible exact ka3 | with_reducible exact ka2 | with_reducible exact Kp.refl _ | with_reducible refine Kp.drew ?_)); done)) | exact ⟨z0, z1⟩) (first | (go_at_call 11; refine (hput _).mono ?_; rintro e v2 ⟨g, rfl, hg, hR, k2⟩; have ka2 : Kp W v2 := Kp.trans ?qa k2; (case qa => ((repeat (first | with_reducible exact ka3 | with_reducible exact ka2 | with_reducible exact Kp.refl _ | with_reducible refine Kp.drew ?_)); done)); obtain ⟨v3, hcp, hr3, hk3, hfar⟩ := copy8b v2 G M (1 + 16 * k) 16 16 16 (some ⟨g, 0, none⟩) F9 _ (rowIs_grown hrowW ka2) (arr_all hR hF) hF (by omega); have hK3 : Kp w v3 := hk3 w hGw (Kp.trans hkW ka2); have z0 : v3.cell? ⟨B, 0, none⟩ = some (.float .f64 Y1) := hfar _ _ _ hBG (kkeep ka2 x0); have z1 : v3.cell? ⟨B, 1, none⟩ = some (.float .f64 Y2) := hfar _ _ _ hBG (kkeep ka2 x1); clear hk3) | (go_at_call 38; refine (hpart _).mono ?_; rintro e w' ⟨rfl, rfl⟩))
      have hrF : v3.rowIs G 5 M (fun j => .int .u8 (if j < 1 + 16 * (k + 1) then (bb ps).getD j 0 else 0)) := World.rowIs.congr hr3 (fun j hj => by
        by_cases c1 : 1 + 16 * k ≤ j ∧ j < 1 + 16 * k + 16
        · rw [if_pos c1, if_pos (by omega)]
          have := HB.out (j - (1 + 16 * k)) (by omega)
          rw [show 1 + 16 * k + (j - (1 + 16 * k)) = j from by omega] at this
          rw [this]
        · rw [if_neg c1]
          by_cases c2 : j < 1 + 16 * k
          · rw [if_pos c2, if_pos (by omega)]
          · rw [if_neg c2, if_neg (by omega)])
      clear hr3 hcp hfar ka2 k2 hR hrowW HB hput hpart
      go_wp2
      exact ⟨⟨k + 1, by omega, by go_num, hrF, hK3⟩, by simp [intOf]; omega⟩
    · have hkN : k = N := by omega
      subst hkN
      have hR : Rw wr G M (bb ps) := World.rowIs.congr hrow (fun j hj => by rw [if_pos (by omega)])
      have hle := HG.out
      clear HX HN hN hM hrow HG
      go_wp2
      exact bodyPost_ret (v := .tuple #[.slice (some ⟨G, 0, none⟩) M M, .int .i64 0]) (by simp [results, Try.results15, go_sem] <;> simp only [*]) rfl ⟨G, rfl, hle, hR, hkp⟩
end B8
end Go.Proofs.Ytbcjhmdkpkmieaa
namespace Go.Proofs.Ytbcjhmdkpkmieaa
open Go.RowKit
open Go
namespace B8
set_option maxRecDepth 20000 in
set_option maxHeartbeats 1000000 in
theorem inbox_ (p : Option Addr) (c : Nat) (ps : List (Nat × Nat)) (w : World) (hx : AG ULV w p ps) (lx : ps.length ≤ 1048576) :
    Calls Try.prog 30 #[.slice p ps.length c] w fun e w' => ∃ v, e = .returned v ∧ OG FLV 25 w' w.heap.size v ps ∧ Kp w w' := by
  obtain ⟨N, hN⟩ : ∃ N, N = ps.length := ⟨_, rfl⟩
  rw [← hN] at lx ⊢
  have HX : Hid (AG ULV w p ps) := hx
  have HN : Hid (N = ps.length) := hN
  obtain ⟨i0, hi0, hi1, hi2, hi3⟩ := infF
  clear hN hx
  go_enter Try.func30, Try.ntmps30
  go_wp2
  go_loopw [3, 4] (fun a i wr => ∃ (v : Value) (j : Nat), v = a ∧ j ≤ N ∧ i = .int .i64 j ∧ OG FLV 25 wr w.heap.size v (ps.take j) ∧ Kp w wr) (fun _ i _ => N - (intOf i).toNat)
  case atStart => exact ⟨_, 0, rfl, Nat.zero_le _, rfl, by simpa using OG.nil FLV 25 w w.heap.size, Kp.refl _⟩
  case round =>
    obtain ⟨v, j, rfl, hj, rfl, hown, hkp⟩ := hrel
    have hN := HN.out
    by_cases cj : j < N
    · obtain ⟨b, off, rfl, hc2⟩ := HX.out.at (k := j) (by omega)
      have e1 : wr.cell? ⟨b, off + j * 2, none⟩ = some (.int .u64 (((ps.getD j (0, 0)).1 : Nat) : Int)) := kkeep hkp (hc2 j (by omega)).1
      have e2 : wr.cell? ⟨b, off + j * 2 + 1, none⟩ = some (.int .u64 (((ps.getD j (0, 0)).2 : Nat) : Int)) := kkeep hkp (hc2 j (by omega)).2
      have hpush := take_push2 ps j (by omega)
      have hlen : (ps.take j).length = j := by rw [List.length_take]; omega
      have hin := in9_ (ps.getD j (0, 0)).1 (ps.getD j (0, 0)).2
      obtain ⟨Y1, hY1⟩ : ∃ Y, Y = (ps.getD j (0, 0)).1 := ⟨_, rfl⟩
      obtain ⟨Y2, hY2⟩ : ∃ Y, Y = (ps.getD j (0, 0)).2 := ⟨_, rfl⟩
      rw [← hY1] at e1 hpush hin
      rw [← hY2] at e2 hpush hin
      have HP : Hid (ps.take j ++ [(Y1, Y2)] = ps.take (j + 1)) := hpush
      generalize (Y1 : Int) = Z1 at e1 hin
      generalize (Y2 : Int) = Z2 at e2 hin
      clear hc2 hY1 hY2 HX HN hpush
      clear hN
      go_wp2_with (first | (go_at_call 17; refine (hin _).mono ?_; rintro e w1 ⟨rfl, g1⟩; have hk1 := Kp.trans hkp g1; have hown1 := hown.kp g1; have hob := og_block hown1; have hsz := hk1.size; have hown' : w1.ownsRow w.heap.size 25 2 v ((ps.take j).length) (flat FLV (ps.take j)) := hown1) | (at_builtin; refine wpList_append_own _ rfl _ _ 33 rfl w.heap.size 25 i0 (.agg #[.float .f64 0, .float .f64 0]) 2 16 Try.underlying33 hi0 hi1 hi2 hi3 rfl (by decide) _ _ _ rfl (hown'.alloc _) ⟨w1.heap.size, 0, none⟩ 1 1 [.float .f64 Y1, .float .f64 Y2] rfl rfl ?c1 ?c2 ?c3 ?c4 ?c5 ?_))
      case c1 =>
        intro j' u hj'
        match j', hj' with
        | 0, hj' => simp at hj'; subst hj'; simp [Addr.add]
        | 1, hj' => simp at hj'; subst hj'; simp [Addr.add]
      case c2 => intro u hu; simp at hu; rcases hu with rfl | rfl <;> rfl
      case c3 => unfold maxLen; omega
      case c4 => omega
      case c5 => simp; omega
      intro v' w2 hown2 hgrow _
      have hO : OG FLV 25 w2 w.heap.size v' (ps.take (j + 1)) := by
        rw [← HP.out]
        refine OG.push ?_
        rw [hlen]
        exact hown2
      have hK2 : Kp w w2 := (hk1.alloc _).grown hgrow hob
      clear hown2 hgrow hown' hkp hob e1 e2 hsz HP hlen hk1 hown1 hown g1
      go_wp2
      exact ⟨⟨_, j + 1, rfl, by omega, by go_num, hO, hK2⟩, by simp [intOf]; omega⟩
    · have hjk : j = N := by omega
      rw [List.take_of_length_le (by omega)] at hown
      clear hN HN HX
      go_wp2
      exact bodyPost_ret (v := v) (by simp [results, Try.results30, go_sem] <;> simp only [*]) rfl ⟨_, rfl, hown, hkp⟩
end B8
end Go.Proofs.Ytbcjhmdkpkmieaa
namespace Go.Proofs.Ytbcjhmdkpkmieaa
open Go.RowKit
open Go
namespace B8
/-- all blocks but g are as they were -/
def Kb (g : Nat) (w w' : World) : Prop := w'.os = w.os ∧ w'.tape = w.tape ∧ w'.output = w.output ∧ w.heap.size ≤ w'.heap.size ∧ ∀ k, k < w.heap.size → k ≠ g → w'.heap[k]? = w.heap[k]?
theorem Kb.refl (g : Nat) (w : World) : Kb g w w := ⟨rfl, rfl, rfl, Nat.le_refl _, fun _ _ _ => rfl⟩
theorem Kb.setCell {g : Nat} {w w' : World} (h : Kb g w w') (j : Nat) (v : Value) : Kb g w (w'.setCell ⟨g, j, none⟩ v) := by
  obtain ⟨h1, h2, h3, h4, h5⟩ := h
  refine ⟨h1, h2, h3, by simpa [World.setCell] using h4, fun k hk hne => ?_⟩
  rw [← h5 k hk hne]
  simp only [World.setCell, Array.getElem?_modify]
  rw [if_neg (by omega)]
theorem Kb.kp {g : Nat} {a w w' : World} (h : Kb g w w') (k : Kp a w) (hg : a.heap.size ≤ g) : Kp a w' :=
  ⟨h.1.trans k.os, h.2.1.trans k.tape, h.2.2.1.trans k.output, Nat.le_trans k.size h.2.2.2.1, fun i hi => (h.2.2.2.2 i (Nat.lt_of_lt_of_le hi k.size) (by omega)).trans (Below.block k i hi)⟩
theorem Kb.arr {g : Nat} {w w' : World} (h : Kb g w w') {b off : Nat} {v : Value} (hne : b ≠ g) (hc : w.cell? ⟨b, off, none⟩ = some v) : w'.cell? ⟨b, off, none⟩ = some v := by
  have e := h.2.2.2.2 b (cell_lt hc) hne
  rw [World.cell?_of_block (w := w) (a := ⟨b, off, none⟩) e]; exact hc
set_option maxRecDepth 20000 in
set_option maxHeartbeats 4000000 in
theorem boxesY_ (p : Option Addr) (c N M : Nat) (LV : List Int) (ps : List (Nat × Nat)) (hPL : ps.length = N) (hLV : LV.length = M) (hNb : N ≤ 1048576) (hMb : M ≤ 1048576) (w : World)
    (HR : Calls Try.prog 29 #[.slice p N c] w fun e w' => ∃ v, e = .returned (.tuple #[v, .int .i64 0]) ∧ Own w' w.heap.size v LV ∧ Kp w w')
    (HI : ∀ W : World, Kp w W → Calls Try.prog 30 #[.slice p N c] W fun e w' => ∃ v, e = .returned v ∧ OG FLV 25 w' W.heap.size v ps ∧ Kp W w')
    (HP : ∀ (q : Option Addr) (d : Nat) (W : World), AG FLV W q ps → Calls Try.prog 15 #[.slice q N d] W fun e w' => ∃ G, e = .returned (.tuple #[.slice (some ⟨G, 0, none⟩) M M, .int .i64 0]) ∧ W.heap.size ≤ G ∧ Rw w' G M LV ∧ Kp W w')
    (HS : ∀ (p q : Option Addr) (c d : Nat) (W : World), Arr W p LV → Arr W q LV → Calls Try.prog 10 #[.slice p M c, .slice q M d] W fun e w' => e = .returned (.bool true) ∧ Kp W w') : Calls Try.prog 7 #[.slice p N c] w fun e w' => e = .returned (.bool true) ∧ Kp w w' := by
  have HN : Hid (N = ps.length) := hPL.symm
  go_enter Try.func7, Try.ntmps7
  go_wp2_with (first | (go_at_call 29; refine HR.mono ?_; rintro e w1 ⟨v1, rfl, o1, k1⟩; obtain ⟨p1, c1, rfl, a1, -⟩ := o1.arr; rw [hLV]) | (go_at_call 30; have hh := b2; refine (HI _ k2).mono ?_; rintro e w3 ⟨v3, rfl, o3, g3⟩; have k3 := Kp.trans k2 g3; replace a1 := a1.grown g3; replace b2 := b2.grown g3; obtain ⟨p3, c3, rfl, b3, -⟩ := o3.arr; rw [hPL]) | (go_at_call 30; refine (HI _ k1).mono ?_; rintro e w2 ⟨v2, rfl, o2, g2⟩; have k2 := Kp.trans k1 g2; replace a1 := a1.grown g2; obtain ⟨p2, c2, rfl, b2, -⟩ := o2.arr; rw [hPL]) | (go_at_call 15; have hh := k5; refine (HP p2 c2 _ (b2.grown k5)).mono ?_; rintro e w6 ⟨G2, rfl, hG2, hR2, g6⟩; have k6 : Kp w3 w6 := Kp.trans k5 g6; have hR6 := hR5.grown g6) | (go_at_call 15; refine (HP p2 c2 _ b2).mono ?_; rintro e w4 ⟨G1, rfl, hG1, hR1, g4⟩; have k4 : Kp w3 w4 := g4; have a1' := a1.grown g4; have a4 := arr_all hR1 hLV) | (go_at_call 10; refine (HS _ _ _ _ _ a4 a1').mono ?_; rintro e w5 ⟨rfl, g5⟩; have k5 : Kp w3 w5 := Kp.trans k4 g5; have hR5 := hR1.grown g5))
  have hlt1 := World.rowIs.lt hR5
  have hne : G2 ≠ G1 := by omega
  have HB2 : Hid (AG FLV w3 p2 ps) := b2
  have HB3 : Hid (AG FLV w3 p3 ps) := b3
  have HA1 : Hid (Arr w3 p1 LV) := a1
  have HR2 : Hid (Rw w6 G2 M LV) := hR2
  have hrow0 : ∃ f, w6.rowIs G1 5 M f := ⟨_, hR6⟩
  clear o1 o2 o3 a1 a1' a4 b2 b3 hR1 hR5 hR6 hR2 hh g2 g3 g4 g5 g6 k1 k2 k4 k5 HI HP HR hPL hG2 hlt1
  go_loopw [10] (fun i wr => ∃ j : Nat, j ≤ M ∧ i = .int .i64 j ∧ (∃ f, wr.rowIs G1 5 M f) ∧ Kb G1 w6 wr) (fun i _ => M - (intOf i).toNat)
  case atStart => exact ⟨0, Nat.zero_le _, rfl, hrow0, Kb.refl _ _⟩
  case round =>
    obtain ⟨j, hj, rfl, ⟨f, hrow⟩, hkb⟩ := hrel
    clear hrow0
    by_cases cj : j < M
    · have e1 := hrow.cell cj
      have e2 := hrow.frozen j
      have hst : ∃ f', (wr.setCell ⟨G1, j, none⟩ (.int .u8 201)).rowIs G1 5 M f' := ⟨_, hrow.set j (.int .u8 201)⟩
      have hkb2 := hkb.setCell j (.int .u8 201)
      generalize f j = V at e1
      clear hrow hkb HB2 HB3 HA1 HR2 HN HS k3 k6
      go_wp2
      exact ⟨⟨j + 1, by omega, by go_num, hst, hkb2⟩, by simp [intOf]; omega⟩
    · have K6 : Kp w3 wr := hkb.kp k6 hG1
      have a2 : Arr wr (some ⟨G2, 0, none⟩) LV := Or.inr ⟨G2, 0, rfl, fun t ht => by
        rw [Nat.zero_add]
        exact hkb.arr hne (World.rowIs.cell HR2.out (by omega))⟩
      have hs := HS _ p1 M c1 wr a2 (HA1.out.grown K6)
      clear hrow hkb k6 HR2 HA1 HS a2
      go_wp2_with (first | (go_at_call 10; refine hs.mono ?_; rintro e w7 ⟨rfl, g7⟩; have K7 : Kp w3 w7 := Kp.trans K6 g7))
      clear hs g7 K6
      go_loopw [11] (fun i wr => ∃ k : Nat, k ≤ N ∧ i = .int .i64 k ∧ Kp w3 wr) (fun i _ => N - (intOf i).toNat)
      case atStart => exact ⟨0, Nat.zero_le _, rfl, K7⟩
      case round =>
        obtain ⟨k, hk, rfl, hg⟩ := hrel
        have hN := HN.out
        by_cases ck : k < N
        · obtain ⟨b, off, rfl, hc⟩ := HB2.out.at (k := k) (by omega)
          obtain ⟨b', off', rfl, hc'⟩ := HB3.out.at (k := k) (by omega)
          have e1 : wr.cell? ⟨b, off + k * 2, none⟩ = some (.float .f64 (ps.getD k (0, 0)).1) := kkeep hg (hc k (by omega)).1
          have e2 : wr.cell? ⟨b, off + k * 2 + 1, none⟩ = some (.float .f64 (ps.getD k (0, 0)).2) := kkeep hg (hc k (by omega)).2
          have f1 : wr.cell? ⟨b', off' + k * 2, none⟩ = some (.float .f64 (ps.getD k (0, 0)).1) := kkeep hg (hc' k (by omega)).1
          have f2 : wr.cell? ⟨b', off' + k * 2 + 1, none⟩ = some (.float .f64 (ps.getD k (0, 0)).2) := kkeep hg (hc' k (by omega)).2
          have ho := out9_ (ps.getD k (0, 0)).1 (ps.getD k (0, 0)).2
          generalize (ps.getD k (0, 0)).1 = Y1 at e1 f1 ho
          generalize (ps.getD k (0, 0)).2 = Y2 at e2 f2 ho
          generalize (Y1 : Int) = Z1 at ho
          generalize (Y2 : Int) = Z2 at ho
          clear hc hc' HB2 HB3 HN hN hk K7
          go_wp2
          refine Fq.wp_region_grow (by kernel_rfl) (by kernel_rfl) (fun ι _ G hG hall => ?_)
          have cc0 : ∀ n, (G n).cell? ⟨b, off + k * 2, none⟩ = some (.float .f64 Y1) := fun n => Fq.gkeep (hG n) e1
          have cc1 : ∀ n, (G n).cell? ⟨b, off + k * 2 + 1, none⟩ = some (.float .f64 Y2) := fun n => Fq.gkeep (hG n) e2
          have cc2 : ∀ n, (G n).cell? ⟨b', off' + k * 2, none⟩ = some (.float .f64 Y1) := fun n => Fq.gkeep (hG n) f1
          have cc3 : ∀ n, (G n).cell? ⟨b', off' + k * 2 + 1, none⟩ = some (.float .f64 Y2) := fun n => Fq.gkeep (hG n) f2
          repeat (go_big_quiet_step (first | (go_at_call 25; exact (ho _).mono (fun e w' h => ⟨h.1, hall _ (Fq.gtrans (hG _) h.2)⟩))))
          refine wpQuiet_nil ?_
          rintro _ ⟨nq, rfl⟩
          have gq : Kp wr (G nq) := hG nq
          clear cc0 cc1 cc2 cc3 hall hG
          go_wp2
          exact ⟨⟨k + 1, by omega, by go_num, Kp.trans hg gq⟩, by simp [intOf]; omega⟩
        · have hK := Kp.trans k3 hg
          clear HB2 HB3 HN hN K7
          go_wp2
          exact bodyPost_ret (v := .bool true) (by simp [results, Try.results7, go_sem]) rfl ⟨rfl, hK⟩
end B8
end Go.Proofs.Ytbcjhmdkpkmieaa
namespace Go.Proofs.Ytbcjhmdkpkmieaa
open Go.RowKit
open Go
namespace B8
set_option maxRecDepth 20000 in
set_option maxHeartbeats 4000000 in
theorem boxesN_ (p : Option Addr) (c N : Nat) (ps : List (Nat × Nat)) (hPL : ps.length = N) (hNb : N ≤ 1048576) (w : World)
    (HR : Calls Try.prog 29 #[.slice p N c] w fun e w' => e = .returned (.tuple #[.slice none 0 0, .int .i64 2]) ∧ Kp w w')
    (HI : ∀ W : World, Kp w W → Calls Try.prog 30 #[.slice p N c] W fun e w' => ∃ v, e = .returned v ∧ OG FLV 25 w' W.heap.size v ps ∧ Kp W w')
    (HP : ∀ (q : Option Addr) (d : Nat) (W : World), Calls Try.prog 15 #[.slice q N d] W fun e w' => e = .returned (.tuple #[.slice none 0 0, .int .i64 2]) ∧ Kp W w')
    (HS : ∀ W : World, Calls Try.prog 10 #[.slice none 0 0, .slice none 0 0] W fun e w' => e = .returned (.bool true) ∧ Kp W w') : Calls Try.prog 7 #[.slice p N c] w fun e w' => e = .returned (.bool true) ∧ Kp w w' := by
  have HN : Hid (N = ps.length) := hPL.symm
  go_enter Try.func7, Try.ntmps7
  go_wp2_with (first | (go_at_call 29; refine HR.mono ?_; rintro e w1 ⟨rfl, k1⟩) | (go_at_call 30; have hh := b2; refine (HI _ k2).mono ?_; rintro e w3 ⟨v3, rfl, o3, g3⟩; have k3 := Kp.trans k2 g3; replace b2 := b2.grown g3; obtain ⟨p3, c3, rfl, b3, -⟩ := o3.arr; rw [hPL]) | (go_at_call 30; refine (HI _ k1).mono ?_; rintro e w2 ⟨v2, rfl, o2, g2⟩; have k2 := Kp.trans k1 g2; obtain ⟨p2, c2, rfl, b2, -⟩ := o2.arr; rw [hPL]) | (go_at_call 15; have hh := k5; refine (HP p2 c2 _).mono ?_; rintro e w6 ⟨rfl, g6⟩; have k6 : Kp w3 w6 := Kp.trans k5 g6) | (go_at_call 15; refine (HP p2 c2 _).mono ?_; rintro e w4 ⟨rfl, g4⟩; have k4 : Kp w3 w4 := g4) | (go_at_call 10; refine (HS _).mono ?_; rintro e w5 ⟨rfl, g5⟩; have k5 : Kp w3 w5 := Kp.trans k4 g5))
  have HB2 : Hid (AG FLV w3 p2 ps) := b2
  have HB3 : Hid (AG FLV w3 p3 ps) := b3
  clear o2 o3 b2 b3 hh g2 g3 g4 g5 g6 k1 k2 k4 k5 HI HP HR hPL
  go_loopw [10] (fun i wr => i = .int .i64 0 ∧ wr = w6) (fun _ _ => 0)
  case atStart => exact ⟨rfl, rfl⟩
  case round =>
    obtain ⟨rfl, hw⟩ := hrel
    rw [hw]
    clear hw wr
    go_wp2_with (first | (go_at_call 10; refine (HS _).mono ?_; rintro e w7 ⟨rfl, g7⟩; have K7 : Kp w3 w7 := Kp.trans k6 g7))
    clear g7 k6 HS
    go_loopw [11] (fun i wr => ∃ k : Nat, k ≤ N ∧ i = .int .i64 k ∧ Kp w3 wr) (fun i _ => N - (intOf i).toNat)
    case atStart => exact ⟨0, Nat.zero_le _, rfl, K7⟩
    case round =>
      obtain ⟨k, hk, rfl, hg⟩ := hrel
      have hN := HN.out
      by_cases ck : k < N
      · obtain ⟨b, off, rfl, hc⟩ := HB2.out.at (k := k) (by omega)
        obtain ⟨b', off', rfl, hc'⟩ := HB3.out.at (k := k) (by omega)
        have e1 : wr.cell? ⟨b, off + k * 2, none⟩ = some (.float .f64 (ps.getD k (0, 0)).1) := kkeep hg (hc k (by omega)).1
        have e2 : wr.cell? ⟨b, off + k * 2 + 1, none⟩ = some (.float .f64 (ps.getD k (0, 0)).2) := kkeep hg (hc k (by omega)).2
        have f1 : wr.cell? ⟨b', off' + k * 2, none⟩ = some (.float .f64 (ps.getD k (0, 0)).1) := kkeep hg (hc' k (by omega)).1
        have f2 : wr.cell? ⟨b', off' + k * 2 + 1, none⟩ = some (.float .f64 (ps.getD k (0, 0)).2) := kkeep hg (hc' k (by omega)).2
        have ho := out9_ (ps.getD k (0, 0)).1 (ps.getD k (0, 0)).2
        generalize (ps.getD k (0, 0)).1 = Y1 at e1 f1 ho
        generalize (ps.getD k (0, 0)).2 = Y2 at e2 f2 ho
        generalize (Y1 : Int) = Z1 at ho
        generalize (Y2 : Int) = Z2 at ho
        clear hc hc' HB2 HB3 HN hN hk K7
        go_wp2
        refine Fq.wp_region_grow (by kernel_rfl) (by kernel_rfl) (fun ι _ G hG hall => ?_)
        have cc0 : ∀ n, (G n).cell? ⟨b, off + k * 2, none⟩ = some (.float .f64 Y1) := fun n => Fq.gkeep (hG n) e1
        have cc1 : ∀ n, (G n).cell? ⟨b, off + k * 2 + 1, none⟩ = some (.float .f64 Y2) := fun n => Fq.gkeep (hG n) e2
        have cc2 : ∀ n, (G n).cell? ⟨b', off' + k * 2, none⟩ = some (.float .f64 Y1) := fun n => Fq.gkeep (hG n) f1
        have cc3 : ∀ n, (G n).cell? ⟨b', off' + k * 2 + 1, none⟩ = some (.float .f64 Y2) := fun n => Fq.gkeep (hG n) f2
        repeat (go_big_quiet_step (first | (go_at_call 25; exact (ho _).mono (fun e w' h => ⟨h.1, hall _ (Fq.gtrans (hG _) h.2)⟩))))
        refine wpQuiet_nil ?_
        rintro _ ⟨nq, rfl⟩
        have gq : Kp wr (G nq) := hG nq
        clear cc0 cc1 cc2 cc3 hall hG
        go_wp2
        exact ⟨⟨k + 1, by omega, by go_num, Kp.trans hg gq⟩, by simp [intOf]; omega⟩
      · have hK := Kp.trans k3 hg
        clear HB2 HB3 HN hN K7
        go_wp2
        exact bodyPost_ret (v := .bool true) (by simp [results, Try.results7, go_sem]) rfl ⟨rfl, hK⟩
end B8
end Go.Proofs.Ytbcjhmdkpkmieaa
namespace Go.Proofs.Ytbcjhmdkpkmieaa
open Go.RowKit
open Go
namespace B8
theorem boxeslaw_ (p : Option Addr) (c : Nat) (ps : List (Nat × Nat)) (w : World) (hx : AG ULV w p ps) (hq : Wq ps) (lx : ps.length ≤ 1048576) : Calls Try.prog 7 #[.slice p ps.length c] w fun e w' => e = .returned (.bool true) ∧ Kp w w' := by
  by_cases h : ps.length ≤ 32
  · refine boxesY_ p c ps.length (1 + 16 * ps.length) (bb ps) ps rfl (bb_len ps) lx (by omega) w (rputboxY_ p c ps w hx hq h) (fun W k => inbox_ p c ps W (hx.grown k) lx) (fun q d W a => putboxY_ q d ps W a hq h) ?_
    intro p q c d W h1 h2
    have := same_ p q c d (bb ps) (bb ps) W h1 h2 (by rw [bb_len]; omega)
    rw [bb_len, decide_eq_true rfl] at this
    exact this
  · refine boxesN_ p c ps.length ps rfl lx w (rputboxN_ p _ c (by omega) w) (fun W k => inbox_ p c ps W (hx.grown k) lx) (fun q d W => putboxN_ q _ d (by omega) W) ?_
    intro W
    have := same_ none none 0 0 [] [] W (Or.inl rfl) (Or.inl rfl) (by simp)
    rw [decide_eq_true rfl] at this
    exact this
end B8
end Go.Proofs.Ytbcjhmdkpkmieaa
