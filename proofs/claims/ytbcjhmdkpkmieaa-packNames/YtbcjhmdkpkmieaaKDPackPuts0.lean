import Derived.Test.YtbcjhmdkpkmieaaKPKb
import Derived.Test.YtbcjhmdkpkmieaaKPKi
import Derived.Test.YtbcjhmdkpkmieaaKPKd
import Derived.Test.YtbcjhmdkpkmieaaKDCb
import Derived.WalkKit
import Derived.ProofKit
import Derived.RowKit3
import Derived.WalkSpells
import Derived.StillTactics
import Derived.Deep.QuietTactic
import Derived.BigQuiet
import Derived.Below
import Derived.Deep.OwnRows
import Derived.OwnWalk
import Derived.Lib.BitFns
import Derived.Deep.RegionHeld3
import Derived.Deep.CutRange
import Derived.Deep.DeepCutAuto
import Derived.Laws.FloatArith
import Derived.Laws.BitsAllLaws
import Derived.Laws.Slices
import Derived.Laws.Bits64b
namespace Go.Proofs.Ytbcjhmdkpkmieaa
open Go.RowKit
open Go
namespace B8
theorem shr_bt (X k : Nat) : (X : Int) / 2 ^ (8 * k) % 256 = ((bt X k : Nat) : Int) := by
  unfold bt
  rw [show (256 : Nat) ^ k = 2 ^ (8 * k) from by rw [Nat.pow_mul]]
  rw [Int.natCast_emod, Int.natCast_ediv, Int.natCast_pow]
  rfl
theorem setCells_row {g : Nat} {t : TypeId} {n : Nat} : ∀ (vs : List Value) (o : Nat) (w : World) (f : Nat → Value), w.rowIs g t n f → (w.setCells g o vs).rowIs g t n (fun j => if o ≤ j ∧ j < o + vs.length then vs.getD (j - o) (f j) else f j)
  | [], o, w, f, h => h.congr (fun j _ => by rw [if_neg (by simp)])
  | v :: vs, o, w, f, h => by
    have ih := setCells_row vs (o + 1) _ _ (h.set o v)
    refine World.rowIs.congr ih (fun j _ => ?_)
    by_cases c1 : j = o
    · subst c1
      rw [if_neg (by omega), if_pos rfl, if_pos ⟨Nat.le_refl _, by simp⟩]; simp
    · by_cases c2 : o + 1 ≤ j ∧ j < o + 1 + vs.length
      · have c3 : o ≤ j ∧ j < o + (v :: vs).length := ⟨by omega, by simp; omega⟩
        rw [if_pos c2, if_pos c3, if_neg c1, show j - o = (j - (o + 1)) + 1 from by omega]; simp
      · rw [if_neg c2, if_neg c1, if_neg (by simp; omega)]
theorem setCells_kp {W : World} {g : Nat} (hg : W.heap.size ≤ g) : ∀ (vs : List Value) (o : Nat) (w : World), Kp W w → Kp W (w.setCells g o vs)
  | [], _, _, h => h
  | v :: vs, o, _, h => setCells_kp hg vs (o + 1) _ (h.setCell hg v)
theorem mk8 (n : Nat) (h : n ≤ 1099511627776) (w : World) : (Instr.makeSlice 22 (.int .i64 (n : Int)) (.int .i64 (n : Int))).run Try.prog w = .ok (.slice (some ⟨w.heap.size, 0, none⟩) n n) (w.alloc (.cells (madeCells #[.int .u8 0] n) 5)) :=
  run_make_row' 22 5 (.int .u8 0) 1 Try.underlying22 inf8 rfl .i64 .i64 n (by omega) (by omega) w
theorem set_step {w : World} {t : TypeId} {g n k : Nat} {xs : List Int} (h : w.rowIs g t n (fun j => .int .u8 (if j < k then xs.getD j 0 else 0))) : (w.setCell ⟨g, k, none⟩ (.int .u8 (xs.getD k 0))).rowIs g t n (fun j => .int .u8 (if j < k + 1 then xs.getD j 0 else 0)) := by
  refine (h.set k (.int .u8 (xs.getD k 0))).congr (fun j _ => ?_)
  by_cases c : j = k
  · subst c; rw [if_pos rfl, if_pos (by omega)]
  · rw [if_neg c]
    by_cases d : j < k
    · rw [if_pos d, if_pos (by omega)]
    · rw [if_neg d, if_neg (by omega)]
theorem siz8 : (Try.prog.info? 5).map (·.size) = some 1 := by kernel_rfl
theorem Rw.set {w : World} {g n : Nat} {xs : List Int} (h : Rw w g n xs) (k : Nat) (x : Int) (hk : k < xs.length) : Rw (w.setCell ⟨g, k, none⟩ (.int .u8 x)) g n (xs.set k x) := by
  refine World.rowIs.congr (World.rowIs.set h k (.int .u8 x)) (fun j _ => ?_)
  by_cases c : j = k
  · subst c; rw [if_pos rfl]; simp [List.getD, hk]
  · have c' : ¬ k = j := fun h => c h.symm
    rw [if_neg c]; simp [List.getD, c']
/-- copy into a part of a row -/
theorem copy8 (w : World) (g n o m c c' : Nat) (p : Option Addr) (xs : List Int) (f : Nat → Value) (hr : w.rowIs g 5 n f) (hx : Arr w p xs) (hl : xs.length = m) (ho : o + m ≤ n) :
    ∃ w2, (∀ ty, (Builtin.copy_ #[22, 22] ty #[.slice (some ⟨g, o, none⟩) m c', .slice p m c]).run Try.prog w = .ok (goInt m) w2) ∧
      w2.rowIs g 5 n (fun j => if o ≤ j ∧ j < o + m then .int .u8 (xs.getD (j - o) 0) else f j) ∧ (∀ W : World, W.heap.size ≤ g → Kp W w → Kp W w2) := by
  subst hl
  rcases hx with rfl | ⟨b, off, rfl, hc⟩
  · refine ⟨w, fun ty => run_copy_none w 22 22 ty 5 _ _ _ _ _ _ Try.underlying22 siz8 (by simp), hr.congr (fun j _ => by rw [if_neg (by simp)]), fun W _ h => h⟩
  · refine ⟨w.setCells g o (xs.map (Value.int .u8)), fun ty => ?_, ?_, fun W hW h => setCells_kp hW _ _ _ h⟩
    · have := run_copy_cells (P := Try.prog) w 22 22 ty 5 g o xs.length c' ⟨b, off, none⟩ xs.length c (xs.map (Value.int .u8)) Try.underlying22 siz8 (by simp)
        (fun j v hv => by
          have hj : j < xs.length := by
            have := List.getElem?_eq_some_iff.1 hv
            simpa using this.1
          rw [addr_add, hc j hj]
          simpa [List.getD, hj] using hv)
        (fun j hj => by rw [hr.cell (by simp at hj; omega)]; rfl) (fun j _ => hr.frozen _)
        (fun v hv => by obtain ⟨x, _, rfl⟩ := List.mem_map.1 hv; rfl)
      simpa using this
    · refine World.rowIs.congr (setCells_row (xs.map (Value.int .u8)) o w f hr) (fun j _ => ?_)
      by_cases c : o ≤ j ∧ j < o + xs.length
      · rw [if_pos c, if_pos (by simpa using c)]; simp [List.getD, show j - o < xs.length from by omega]
      · rw [if_neg c, if_neg (by simpa using c)]
end B8
end Go.Proofs.Ytbcjhmdkpkmieaa
namespace Go.Proofs.Ytbcjhmdkpkmieaa
open Go.RowKit
namespace Fq
set_option maxRecDepth 20000 in
set_option maxHeartbeats 1000000 in
theorem rread_ (n n' : Bool) (m m' : Nat) (hm : m < 9223372036854775808) (hm' : m' < 9223372036854775808) (w : World) : Calls Try.prog 41 #[.agg #[.int .u64 (((wD n m) : Nat) : Int), .int .u64 (((wD n' m') : Nat) : Int)]] w fun e w' => e = .returned (.agg #[.int .u64 (((rlo (wD n m) (wD n' m')) : Nat) : Int), .int .u64 (((rhi (wD n m) (wD n' m')) : Nat) : Int)]) ∧ Grown w w' := by
  have hs := sound_ n n' m m' hm hm'
  have es := snd_w n n' m m' hm hm'
  have hp := rplain6_ n m
  have hp' := rplain6_ n' m'
  obtain ⟨X, hX⟩ : ∃ X, X = wD n m := ⟨_, rfl⟩
  obtain ⟨Y, hY⟩ : ∃ Y, Y = wD n' m' := ⟨_, rfl⟩
  rw [← hX] at hs es hp ⊢
  rw [← hY] at hs es hp' ⊢
  clear hX hY
  by_cases c : snd X Y = true
  · rw [c] at hs
    rw [show rlo X Y = pla X from by simp [rlo, c], show rhi X Y = pla Y from by simp [rhi, c]]
    rw [c] at es
    replace es := of_decide_eq_true es.symm
    replace hp := hp es.1
    replace hp' := hp' es.2.1
    clear es c hm hm'
    generalize ((pla X : Nat) : Int) = PX at hp ⊢
    generalize ((pla Y : Nat) : Int) = PY at hp' ⊢
    generalize (X : Int) = X at hs hp ⊢
    generalize (Y : Int) = Y at hs hp' ⊢
    go_enter Try.func41, Try.ntmps41
    go_wp2_with (first | (go_at_call 59; refine (hs _).mono ?_; rintro e w' ⟨rfl, rfl⟩))
    go_region_held3 (fun w' => w'.cell? ⟨w.heap.size, 0, none⟩ = some (.int .u64 X) ∧ w'.cell? ⟨w.heap.size, 1, none⟩ = some (.int .u64 Y)) (simp [go_sem, World.cell?_alloc_past]) (first | (go_at_call_of 61 (Value.int .u64 X); refine (hp _).mono ?_; rintro e w' ⟨rfl, rfl⟩) | (go_at_call_of 61 (Value.int .u64 Y); refine (hp' _).mono ?_; rintro e w' ⟨rfl, rfl⟩))
    go_wp2
    exact bodyPost_ret (v := .agg #[.int .u64 PX, .int .u64 PY]) (by simp [results, Try.results41, go_sem] <;> simp only [*]) rfl ⟨rfl, (by repeat (with_reducible (first | assumption | exact Grown.refl _ | apply Grown.drew | apply Grown.alloc | apply gdrewN | (refine Grown.setCell ?_ (by simp <;> omega) _) | (refine gtrans ?_ (by assumption)))))⟩
  · have c : snd X Y = false := by simpa using c
    rw [c] at hs
    rw [show rlo X Y = 9218868437227405312 from by simp [rlo, c], show rhi X Y = 18442240474082181120 from by simp [rhi, c]]
    clear es c hm hm' hp hp'
    go_enter Try.func41, Try.ntmps41
    go_wp2_with (first | (go_at_call 59; refine (hs _).mono ?_; rintro e w' ⟨rfl, rfl⟩) | (go_at_call 60; refine (rempty_ _).mono ?_; rintro e w' ⟨rfl, rfl⟩))
    exact bodyPost_ret (v := .agg #[.int .u64 9218868437227405312, .int .u64 18442240474082181120]) (by simp [results, Try.results41, go_sem] <;> simp only [*]) rfl ⟨rfl, (by repeat (with_reducible (first | assumption | exact Grown.refl _ | apply Grown.drew | apply Grown.alloc | apply gdrewN | (refine Grown.setCell ?_ (by simp <;> omega) _) | (refine gtrans ?_ (by assumption)))))⟩
end Fq
end Go.Proofs.Ytbcjhmdkpkmieaa
namespace Go.Proofs.Ytbcjhmdkpkmieaa
open Go.RowKit
def pI (x : Int) : Int := ((pw x : Nat) : Int)
theorem rread9_ (a b : Nat) (L H : Int) (h : Rd a b L H) (w : World) : Calls Try.prog 41 #[.agg #[.int .u64 ((a : Nat) : Int), .int .u64 ((b : Nat) : Int)]] w fun e w' => e = .returned (.agg #[.int .u64 (pI L), .int .u64 (pI H)]) ∧ Kp w w' := by
  have e1 := h.2.2.2.1
  have e2 := h.2.2.2.2
  unfold pI
  rw [← e1, ← e2]
  obtain ⟨n, m, hm, rfl⟩ := Fq.exD a h.1
  obtain ⟨n', m', hm', rfl⟩ := Fq.exD b h.2.1
  exact Fq.rread_ n n' m m' hm hm' w
end Go.Proofs.Ytbcjhmdkpkmieaa
namespace Go.Proofs.Ytbcjhmdkpkmieaa
open Go.RowKit
open Go
namespace B8
set_option maxRecDepth 20000 in
set_option maxHeartbeats 1000000 in
theorem lay_ (g o n c X : Nat) (f : Nat → Value) (w : World) (hr : w.rowIs g 5 n f) (ho : o + 8 ≤ n) : Calls Try.prog 34 #[.slice (some ⟨g, o, none⟩) 8 c, .float .f64 X] w fun e w' => e = .returned (.tuple #[]) ∧ w'.rowIs g 5 n (fun j => if o ≤ j ∧ j < o + 8 then .int .u8 ((by8 X).getD (j - o) 0) else f j) ∧ ∀ W : World, W.heap.size ≤ g → Kp W w → Kp W w' := by
  have hfb := Fq.fb64 X
  have h0 : (w.alloc (.cells #[.int .u8 0, .int .u8 0, .int .u8 0, .int .u8 0, .int .u8 0, .int .u8 0, .int .u8 0, .int .u8 0] 89)).rowIs w.heap.size 89 8 (fun j => .int .u8 (if j < 0 then (by8 X).getD j 0 else 0)) := World.rowIs_alloc w #[.int .u8 0, .int .u8 0, .int .u8 0, .int .u8 0, .int .u8 0, .int .u8 0, .int .u8 0, .int .u8 0] 89 _ (fun i hi => by
    match i, hi with
    | 0, _ | 1, _ | 2, _ | 3, _ | 4, _ | 5, _ | 6, _ | 7, _ => rfl)
  have hg0 : Kp w (w.alloc (.cells #[.int .u8 0, .int .u8 0, .int .u8 0, .int .u8 0, .int .u8 0, .int .u8 0, .int .u8 0, .int .u8 0] 89)) := (Kp.refl w).alloc _
  obtain ⟨G, hG⟩ : ∃ G, G = w.heap.size := ⟨_, rfl⟩
  rw [← hG] at h0
  have HG : Hid (G = w.heap.size) := hG
  have HR : Hid (w.rowIs g 5 n f ∧ o + 8 ≤ n) := ⟨hr, ho⟩
  clear hr ho
  go_enter Try.func34, Try.ntmps34
  go_wp2
  rw [← hG]
  clear hG
  go_loopw [9] (fun i wr => ∃ k : Nat, k ≤ 8 ∧ i = .int .i64 k ∧ Kp w wr ∧ wr.rowIs G 89 8 (fun j => .int .u8 (if j < k then (by8 X).getD j 0 else 0))) (fun i _ => 8 - (intOf i).toNat)
  case atStart => exact ⟨0, Nat.zero_le _, rfl, hg0, h0⟩
  case round =>
    obtain ⟨k, hk, rfl, hgr, hrow⟩ := hrel
    clear h0 hg0
    by_cases ck : k < 8
    · have e2 := hrow.cell ck
      have e3 := hrow.frozen k
      have hst := set_step hrow
      have hgs : Kp w (wr.setCell ⟨G, k, none⟩ (.int .u8 ((by8 X).getD k 0))) := hgr.setCell (by rw [HG.out]; exact Nat.le_refl _) _
      have hv := shr_bt X k
      rw [by8_getD X k ck] at hst hgs
      rw [if_neg (Nat.lt_irrefl k)] at e2
      rw [← hv] at hst hgs
      clear hv
      clear HR HG hk hrow hgr
      go_wp2
      exact ⟨⟨k + 1, by omega, by go_num, hgs, hst⟩, by simp [intOf]; omega⟩
    · have hk8 : k = 8 := by omega
      subst hk8
      obtain ⟨hr, ho⟩ := HR.out
      have ha : Arr wr (some ⟨G, 0, none⟩) (by8 X) := Or.inr ⟨G, 0, rfl, fun j hj => by
        rw [by8_len] at hj
        rw [Nat.zero_add, hrow.cell hj, if_pos hj]⟩
      obtain ⟨w2, hcp, hr2, hkw⟩ := copy8 wr g n o 8 8 c (some ⟨G, 0, none⟩) (by8 X) f (rowIs_grown hr hgr) ha (by8_len X) ho
      have hK : ∀ W : World, W.heap.size ≤ g → Kp W w → Kp W w2 := fun W h1 h2 => hkw W h1 (Kp.trans h2 hgr)
      clear HR HG hk hrow hgr ha hr ho hkw ck hfb
      go_wp2
      exact bodyPost_end (v := .tuple #[]) (by kernel_rfl) rfl ⟨rfl, hr2, hK⟩
end B8
end Go.Proofs.Ytbcjhmdkpkmieaa
namespace Go.Proofs.Ytbcjhmdkpkmieaa
open Go.RowKit
open Go
namespace B8
theorem getD_two (X Y j : Nat) : (by8 X ++ by8 Y).getD j 0 = if j < 8 then (by8 X).getD j 0 else (by8 Y).getD (j - 8) 0 := by
  by_cases c : j < 8
  · rw [if_pos c]; simp [List.getD, List.getElem?_append, by8_len, c]
  · rw [if_neg c]; simp [List.getD, List.getElem?_append, by8_len, c]
set_option maxRecDepth 20000 in
set_option maxHeartbeats 1000000 in
theorem put_ (a b L H : Nat) (hr : ∀ w : World, Calls Try.prog 33 #[.agg #[.float .f64 a, .float .f64 b]] w fun e w' => e = .returned (.agg #[.float .f64 L, .float .f64 H]) ∧ Kp w w') (w : World) : Calls Try.prog 11 #[.agg #[.float .f64 a, .float .f64 b]] w fun e w' => ∃ g, e = .returned (.slice (some ⟨g, 0, none⟩) 16 16) ∧ w.heap.size ≤ g ∧ Rw w' g 16 (by8 L ++ by8 H) ∧ Kp w w' := by
  have hmk : ∀ w : World, (Instr.makeSlice 22 (.int .i64 16) (.int .i64 16)).run Try.prog w = .ok (.slice (some ⟨w.heap.size, 0, none⟩) 16 16) (w.alloc (.cells (madeCells #[.int .u8 0] 16) 5)) := mk8 16 (by decide)
  go_enter Try.func11, Try.ntmps11
  go_upto_region 3 with (first | (go_at_call 33; refine (hr _).mono ?_; rintro e w1 ⟨rfl, g1⟩; have q0 := Fq.H2.keep (Fq.H2.new w (.float .f64 a) (.float .f64 b) 25) g1; have kw : Kp w w1 := Kp.trans ((Kp.refl w).alloc _) g1; obtain ⟨x0, x1, x2, x3⟩ := id q0))
  have qx := Fq.H2.put q0 (.float .f64 L) (.float .f64 H)
  have kv : Kp w ((w1.setCell ⟨w.heap.size, 0, none⟩ (.float .f64 L)).setCell ⟨w.heap.size, 1, none⟩ (.float .f64 H)) := (kw.setCell (Nat.le_refl _) _).setCell (Nat.le_refl _) _
  obtain ⟨W1, hW1⟩ : ∃ W1, W1 = (w1.setCell ⟨w.heap.size, 0, none⟩ (.float .f64 L)).setCell ⟨w.heap.size, 1, none⟩ (.float .f64 H) := ⟨_, rfl⟩
  have hsz : W1.heap.size = w1.heap.size := by rw [hW1]; simp
  rw [← hW1] at qx kv ⊢
  obtain ⟨z0, z1, -, -⟩ := id qx
  have hr0 := World.rowIs_made W1 (.int .u8 0) 16 5
  have hk0 : Kp W1 (W1.alloc (.cells (madeCells #[.int .u8 0] 16) 5)) := (Kp.refl W1).alloc _
  obtain ⟨G, hG⟩ : ∃ G, G = w1.heap.size := ⟨_, rfl⟩
  have hGe : W1.heap.size ≤ G := by omega
  rw [hsz, ← hG] at hr0
  rw [← hG]
  have hwG : w.heap.size ≤ G := Nat.le_trans (Below.size kv) hGe
  generalize W1.alloc (.cells (madeCells #[.int .u8 0] 16) 5) = W2 at hr0 hk0 ⊢
  obtain ⟨B, hB⟩ : ∃ B, B = w.heap.size := ⟨_, rfl⟩
  rw [← hB] at z0 z1 ⊢
  have HWB : Hid (w.heap.size ≤ G) := hwG
  have HC1 : ∀ w : World, Calls Try.prog 35 #[.slice (some ⟨G, 0, none⟩) 16 16, .int .i64 0, .int .i64 8] w fun e w' => e = .returned (.slice (some ⟨G, 0, none⟩) 8 8) ∧ w' = w := cut_ G 0 16 16 0 8 (by decide) (by decide) (by decide)
  have HC2 : ∀ w : World, Calls Try.prog 35 #[.slice (some ⟨G, 0, none⟩) 16 16, .int .i64 8, .int .i64 8] w fun e w' => e = .returned (.slice (some ⟨G, 8, none⟩) 8 8) ∧ w' = w := by
    have := cut_ G 0 16 16 8 8 (by decide) (by decide) (by decide)
    rw [Nat.zero_add] at this
    exact this
  have HL1 := lay_ G 0 16 8 L
  have HL2 := lay_ G 8 16 8 H
  clear hW1 hsz hG x0 x1 x2 x3 q0 g1 kw hwG hB hr hmk qx
  go_region_held3 (fun w' => w'.cell? ⟨B, 0, none⟩ = some (.float .f64 L) ∧ w'.cell? ⟨B, 1, none⟩ = some (.float .f64 H)) (refine ⟨kkeep (W := W1) ?_ z0, kkeep (W := W1) ?_ z1⟩ <;> ((repeat (first | with_reducible exact ka2 | with_reducible exact ka1 | with_reducible exact hk0 | with_reducible exact Kp.refl _ | with_reducible refine Kp.drew ?_)); done)) (first | (go_at_call 34; refine (HL1 ?ff1 _ ?qa1 ?qb1).mono ?_; (case qa1 => exact hr0); (case qb1 => decide); rintro e v1 ⟨rfl, hr1, hk1⟩; have ka1 : Kp W1 v1 := hk1 W1 hGe ?q3; (case q3 => ((repeat (first | with_reducible exact ka2 | with_reducible exact ka1 | with_reducible exact hk0 | with_reducible exact Kp.refl _ | with_reducible refine Kp.drew ?_)); done))) | (go_at_call 35; refine (HC1 _).mono ?_; rintro e w' ⟨rfl, rfl⟩))
  clear HC1 HL1
  go_upto_region 4 with fail
  go_region_held3 (fun w' => w'.cell? ⟨B, 0, none⟩ = some (.float .f64 L) ∧ w'.cell? ⟨B, 1, none⟩ = some (.float .f64 H)) (refine ⟨kkeep (W := W1) ?_ z0, kkeep (W := W1) ?_ z1⟩ <;> ((repeat (first | with_reducible exact ka2 | with_reducible exact ka1 | with_reducible exact hk0 | with_reducible exact Kp.refl _ | with_reducible refine Kp.drew ?_)); done)) (first | (go_at_call 34; refine (HL2 ?ff2 _ ?qa2 ?qb2).mono ?_; (case qa2 => exact hr1); (case qb2 => decide); rintro e v2 ⟨rfl, hr2, hk2⟩; have ka2 : Kp W1 v2 := hk2 W1 hGe ?q3; (case q3 => ((repeat (first | with_reducible exact ka2 | with_reducible exact ka1 | with_reducible exact hk0 | with_reducible exact Kp.refl _ | with_reducible refine Kp.drew ?_)); done))) | (go_at_call 35; refine (HC2 _).mono ?_; rintro e w' ⟨rfl, rfl⟩))
  have hR : Rw v2 G 16 (by8 L ++ by8 H) := World.rowIs.congr hr2 (fun j hj => by
    rw [getD_two]
    by_cases c : j < 8
    · rw [if_neg (by omega), if_pos ⟨Nat.zero_le _, by omega⟩, if_pos c]; rfl
    · rw [if_pos ⟨by omega, by omega⟩, if_neg c])
  have hK : Kp w v2 := Kp.trans kv ka2
  clear hr1 hr2 ka1 ka2 hk1 hk2 hr0 hk0 HC2 HL2 z0 z1
  go_wp2
  have hle := HWB.out
  exact bodyPost_ret (v := .slice (some ⟨G, 0, none⟩) 16 16) (by simp [results, Try.results11, go_sem]) rfl ⟨G, rfl, hle, hR, hK⟩
end B8
end Go.Proofs.Ytbcjhmdkpkmieaa
namespace Go.Proofs.Ytbcjhmdkpkmieaa
open Go.RowKit
open Go
namespace B8
set_option maxRecDepth 20000 in
set_option maxHeartbeats 1000000 in
theorem rput_ (a b : Nat) (L H : Int) (hx : Rd a b L H) (w : World) : Calls Try.prog 18 #[.agg #[.int .u64 ((a : Nat) : Int), .int .u64 ((b : Nat) : Int)]] w fun e w' => ∃ v, e = .returned v ∧ Own w' w.heap.size v (by8 (pw L) ++ by8 (pw H)) ∧ Kp w w' := by
  have hr := rread9_ a b L H hx
  have hf := rform_ (pw L) (pw H) (pw_lt L hx.vd.lo) (pw_lt H hx.vd.hi)
  unfold pI at hr
  clear hx
  generalize by8 (pw L) ++ by8 (pw H) = xs at hf ⊢
  generalize ((pw L : Nat) : Int) = X at hr hf
  generalize ((pw H : Nat) : Int) = Y at hr hf
  generalize (a : Int) = P at hr ⊢
  generalize (b : Int) = Q at hr ⊢
  go_enter Try.func18, Try.ntmps18
  go_wp2_with (first | (go_at_call 41; refine (hr _).mono ?_; rintro e w1 ⟨rfl, g1⟩; have k1 : Kp w w1 := Kp.trans ((Kp.refl w).alloc _) g1) | (go_at_call 40; refine (hf _).mono ?_; rintro e w2 ⟨v, rfl, o2, g2⟩; have k2 := Kp.trans k1 g2; replace o2 := o2.mono (Below.size k1)))
  exact bodyPost_ret (v := v) (by simp [results, Try.results18, go_sem]) rfl ⟨_, rfl, o2, k2⟩
end B8
end Go.Proofs.Ytbcjhmdkpkmieaa
namespace Go.Proofs.Ytbcjhmdkpkmieaa
open Go.RowKit
set_option maxRecDepth 20000 in
set_option maxHeartbeats 1000000 in
theorem in9_ (a b : Nat) (w : World) : Calls Try.prog 17 #[.agg #[.int .u64 ((a : Nat) : Int), .int .u64 ((b : Nat) : Int)]] w fun e w' => e = .returned (.agg #[.float .f64 a, .float .f64 b]) ∧ Kp w w' := by
  have h1 := Fq.ff64 a
  have h2 := Fq.ff64 b
  generalize (a : Int) = X at h1 ⊢
  generalize (b : Int) = Y at h2 ⊢
  go_enter Try.func17, Try.ntmps17
  go_wp2
  go_region_held3 (fun w' => w'.cell? ⟨w.heap.size, 0, none⟩ = some (.int .u64 X) ∧ w'.cell? ⟨w.heap.size, 1, none⟩ = some (.int .u64 Y)) (simp [go_sem]) (fail)
  go_wp2
  exact bodyPost_ret (v := .agg #[.float .f64 a, .float .f64 b]) (by simp [results, Try.results17, go_sem]) rfl ⟨rfl, (by repeat (with_reducible (first | assumption | exact Kp.refl _ | apply Kp.drew | apply Kp.alloc | apply Kp.drewN | (refine Kp.setCell ?_ (by first | omega | (simp <;> omega)) _) | (refine Kp.trans ?_ (by assumption)))))⟩
end Go.Proofs.Ytbcjhmdkpkmieaa
namespace Go.Proofs.Ytbcjhmdkpkmieaa
open Go.RowKit
open Go
namespace B8
theorem arr_all {w : World} {g n : Nat} {xs : List Int} (h : Rw w g n xs) (hl : xs.length = n) : Arr w (some ⟨g, 0, none⟩) xs := by
  have := h.arr n (Nat.le_refl _) (by omega)
  rwa [List.take_of_length_le (by omega)] at this
set_option maxRecDepth 20000 in
set_option maxHeartbeats 1000000 in
theorem putslaw_ (a b : Nat) (ha : a < 18446744073709551616) (hb : b < 18446744073709551616) (w : World) : Calls Try.prog 4 #[.agg #[.int .u64 ((a : Nat) : Int), .int .u64 ((b : Nat) : Int)]] w fun e w' => e = .returned (.bool true) ∧ Kp w w' := by
  obtain ⟨L, H, hx⟩ := Rd.ex a b ha hb
  have hp := put_ a b (pw L) (pw H) hx.call
  have hr := rput_ a b L H hx
  have hin := in9_ a b
  have hlen : (by8 (pw L) ++ by8 (pw H)).length = 16 := by rw [List.length_append, by8_len, by8_len]
  clear hx ha hb
  generalize by8 (pw L) ++ by8 (pw H) = xs at hp hr hlen
  generalize (a : Int) = X at hin hr ⊢
  generalize (b : Int) = Y at hin hr ⊢
  have hs : ∀ (p q : Option Addr) (c d : Nat) (W : World), Arr W p xs → Arr W q xs → Calls Try.prog 10 #[.slice p 16 c, .slice q 16 d] W fun e w' => e = .returned (.bool true) ∧ Kp W w' := by
    intro p q c d W h1 h2
    have := same_ p q c d xs xs W h1 h2 (by rw [hlen]; decide)
    rw [hlen, decide_eq_true rfl] at this
    exact this
  go_enter Try.func4, Try.ntmps4
  go_upto_region 1 with fail
  obtain ⟨B, hB⟩ : ∃ B, B = w.heap.size := ⟨_, rfl⟩
  obtain ⟨w0, hw0⟩ : ∃ w0, w0 = w.alloc (.cells #[.int .u64 X, .int .u64 Y] 42) := ⟨_, rfl⟩
  have x0 : w0.cell? ⟨B, 0, none⟩ = some (.int .u64 X) := by rw [hw0, hB]; simp [go_sem]
  have x1 : w0.cell? ⟨B, 1, none⟩ = some (.int .u64 Y) := by rw [hw0, hB]; simp [go_sem]
  have kw : Kp w w0 := by rw [hw0]; exact (Kp.refl w).alloc _
  rw [← hB, ← hw0]
  clear hw0 hB
  go_region_held3 (fun w' => w'.cell? ⟨B, 0, none⟩ = some (.int .u64 X) ∧ w'.cell? ⟨B, 1, none⟩ = some (.int .u64 Y)) (refine ⟨kkeep (W := w0) ?_ x0, kkeep (W := w0) ?_ x1⟩ <;> ((repeat (first | with_reducible exact kk4 | with_reducible exact kk3 | with_reducible exact kk2 | with_reducible exact kk1 | with_reducible exact Kp.refl _ | with_reducible refine Kp.drew ?_)); done)) (first | (go_at_call 10; refine (hs _ _ _ _ _ ?q6 ?q7).mono ?_; (case q6 => exact a2); (case q7 => exact a3); rintro e v4 ⟨rfl, k4⟩; have kk4 : Kp w0 v4 := Kp.trans ?q4 k4; (case q4 => ((repeat (first | with_reducible exact kk4 | with_reducible exact kk3 | with_reducible exact kk2 | with_reducible exact kk1 | with_reducible exact Kp.refl _ | with_reducible refine Kp.drew ?_)); done))) | (go_at_call 18; refine (hr _).mono ?_; rintro e v3 ⟨vv, rfl, o3, k3⟩; have kk3 : Kp w0 v3 := Kp.trans ?q3 k3; (case q3 => ((repeat (first | with_reducible exact kk4 | with_reducible exact kk3 | with_reducible exact kk2 | with_reducible exact kk1 | with_reducible exact Kp.refl _ | with_reducible refine Kp.drew ?_)); done)); obtain ⟨p3, c3, rfl, a3, -⟩ := o3.arr; replace a2 : Arr v3 (some ⟨g, 0, none⟩) xs := a2.grown ?q5; (case q5 => first | exact k3 | exact Kp.trans ((Kp.refl _).drew) k3); rw [hlen]) | (go_at_call 11; refine (hp _).mono ?_; rintro e v2 ⟨g, rfl, hg, hR, k2⟩; have kk2 : Kp w0 v2 := Kp.trans ?q2 k2; (case q2 => ((repeat (first | with_reducible exact kk4 | with_reducible exact kk3 | with_reducible exact kk2 | with_reducible exact kk1 | with_reducible exact Kp.refl _ | with_reducible refine Kp.drew ?_)); done)); have a2 : Arr v2 (some ⟨g, 0, none⟩) xs := arr_all hR hlen) | (go_at_call 17; refine (hin _).mono ?_; rintro e v1 ⟨rfl, k1⟩; have kk1 : Kp w0 v1 := Kp.trans ?q1 k1; (case q1 => ((repeat (first | with_reducible exact kk4 | with_reducible exact kk3 | with_reducible exact kk2 | with_reducible exact kk1 | with_reducible exact Kp.refl _ | with_reducible refine Kp.drew ?_)); done))))
  have hK := Kp.trans kw kk4
  clear kk4 kk3 kk2 kk1 k1 k2 k3 k4 hs hin hp hr
  go_wp2
  exact bodyPost_ret (v := .bool true) (by simp [results, Try.results4, go_sem]) rfl ⟨rfl, hK⟩
end B8
end Go.Proofs.Ytbcjhmdkpkmieaa
