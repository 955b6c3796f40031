import Derived.Test.YtbcjhmdkpkmieabKPKs
import Derived.Test.YtbcjhmdkpkmieabKDPackOnce0
import Derived.WalkKit
import Derived.ProofKit
import Derived.RowKit3
import Derived.WalkSpells
import Derived.StillTactics
import Derived.Deep.QuietTactic
import Derived.BigQuiet
import Derived.Below
import Derived.Deep.OwnRows
import Derived.OwnWalk
import Derived.Lib.BitFns
import Derived.Deep.RegionHeld3
import Derived.Deep.CutRange
import Derived.Deep.DeepCutAuto
import Derived.Laws.FloatArith
import Derived.Laws.BitsAllLaws
import Derived.Laws.Slices
import Derived.Laws.Bits64b
namespace Go.Proofs.Ytbcjhmdkpkmieab
open Go.RowKit
open Go
namespace B8
theorem bt_lt (n j : Nat) : bt n j < 256 := Nat.mod_lt _ (by decide)
theorem by8_wb (n : Nat) : Wb (by8 n) := by
  intro j
  by_cases c : j < 8
  · rw [by8_getD n j c]; have := bt_lt n j; omega
  · have : (by8 n).getD j 0 = 0 := by
      rw [List.getD, List.getElem?_eq_none (by rw [by8_len]; omega)]; rfl
    omega
theorem Own.kp {w w' : World} {base : Nat} {v : Value} {xs : List Int} (h : Own w base v xs) (k : Kp w w') : Own w' base v xs := by
  refine ⟨h.1, ?_⟩
  rcases h.2 with h' | ⟨g, cap, cur, h1, h2, h3, h4, h5, h6, h7⟩
  · exact Or.inl h'
  · have hlt : g < w.heap.size := by
      by_cases c : g < w.heap.size
      · exact c
      · rw [Array.getElem?_eq_none (by simpa using c)] at h3; cases h3
    exact Or.inr ⟨g, cap, cur, h1, h2, by rw [Below.block k g hlt]; exact h3, h4, h5, h6, h7⟩
end B8
end Go.Proofs.Ytbcjhmdkpkmieab
namespace Go.Proofs.Ytbcjhmdkpkmieab
open Go.RowKit
namespace Fq
set_option maxRecDepth 20000 in
set_option maxHeartbeats 2000000 in
theorem rvalid_ (n n' : Bool) (m m' : Nat) (hm : m < 9223372036854775808) (hm' : m' < 9223372036854775808) (w : World) : Calls Try.prog 40 #[.agg #[.int .u64 (((wD n m) : Nat) : Int), .int .u64 (((wD n' m') : Nat) : Int)]] w fun e w' => e = .returned (.bool (vld (wD n m) (wD n' m'))) ∧ Grown w w' := by
  have hs := sound_ n n' m m' hm hm'
  unfold vld
  generalize snd (wD n m) (wD n' m') = s at hs ⊢
  have t1 : decide (wD n m = 9218868437227405312 ∧ wD n' m' = 18442240474082181120) = ((((wD n m : Nat) : Int) == 9218868437227405312) && (((wD n' m' : Nat) : Int) == 18442240474082181120)) := by
    by_cases c1 : wD n m = 9218868437227405312 <;> by_cases c2 : wD n' m' = 18442240474082181120 <;> simp [c1, c2] <;> omega
  have t3 : (!decide (wD n m = 9223372036854775808)) = (((wD n m : Nat) : Int) != 9223372036854775808) := by
    by_cases c1 : wD n m = 9223372036854775808 <;> simp [c1] <;> omega
  have t4 : (!decide (wD n' m' = 9223372036854775808)) = (((wD n' m' : Nat) : Int) != 9223372036854775808) := by
    by_cases c1 : wD n' m' = 9223372036854775808 <;> simp [c1] <;> omega
  rw [t1, t3, t4]
  clear t1 t3 t4 hm hm'
  generalize ((wD n m : Nat) : Int) = X at hs ⊢
  generalize ((wD n' m' : Nat) : Int) = Y at hs ⊢
  generalize h1 : (X == 9218868437227405312) = E1
  generalize h2 : (Y == 18442240474082181120) = E2
  generalize h3 : (X != 9223372036854775808) = E3
  generalize h4 : (Y != 9223372036854775808) = E4
  cases E1
  · cases s <;> cases E2 <;> cases E3 <;> cases E4
    all_goals (
      go_enter Try.func40, Try.ntmps40
      go_wp2
      go_region_held3 (fun w' => w'.cell? ⟨w.heap.size, 0, none⟩ = some (.int .u64 X) ∧ w'.cell? ⟨w.heap.size, 1, none⟩ = some (.int .u64 Y)) (simp [go_sem]) (first | (go_at_call 36; refine (rempty_ _).mono ?_; rintro e w' ⟨rfl, rfl⟩))
      go_wp2_with (first | (go_at_call 35; refine (hs _).mono ?_; rintro e w' ⟨rfl, rfl⟩))
      exact bodyPost_ret (v := .bool _) (by simp [results, Try.results40, go_sem] <;> simp only [*]) rfl ⟨rfl, (by repeat (with_reducible (first | assumption | exact Grown.refl _ | apply Grown.drew | apply Grown.alloc | apply gdrewN | (refine Grown.setCell ?_ (by simp <;> omega) _) | (refine gtrans ?_ (by assumption)))))⟩)
  cases E2
  · cases s <;> cases E3 <;> cases E4
    all_goals (
      go_enter Try.func40, Try.ntmps40
      go_wp2
      go_region_held3 (fun w' => w'.cell? ⟨w.heap.size, 0, none⟩ = some (.int .u64 X) ∧ w'.cell? ⟨w.heap.size, 1, none⟩ = some (.int .u64 Y)) (simp [go_sem]) (first | (go_at_call 36; refine (rempty_ _).mono ?_; rintro e w' ⟨rfl, rfl⟩))
      go_wp2_with (first | (go_at_call 35; refine (hs _).mono ?_; rintro e w' ⟨rfl, rfl⟩))
      exact bodyPost_ret (v := .bool _) (by simp [results, Try.results40, go_sem] <;> simp only [*]) rfl ⟨rfl, (by repeat (with_reducible (first | assumption | exact Grown.refl _ | apply Grown.drew | apply Grown.alloc | apply gdrewN | (refine Grown.setCell ?_ (by simp <;> omega) _) | (refine gtrans ?_ (by assumption)))))⟩)
  · cases s <;> cases E3 <;> cases E4
    all_goals (
      go_enter Try.func40, Try.ntmps40
      go_wp2
      go_region_held3 (fun w' => w'.cell? ⟨w.heap.size, 0, none⟩ = some (.int .u64 X) ∧ w'.cell? ⟨w.heap.size, 1, none⟩ = some (.int .u64 Y)) (simp [go_sem]) (first | (go_at_call 36; refine (rempty_ _).mono ?_; rintro e w' ⟨rfl, rfl⟩))
      go_wp2_with (first | (go_at_call 35; refine (hs _).mono ?_; rintro e w' ⟨rfl, rfl⟩))
      exact bodyPost_ret (v := .bool _) (by simp [results, Try.results40, go_sem] <;> simp only [*]) rfl ⟨rfl, (by repeat (with_reducible (first | assumption | exact Grown.refl _ | apply Grown.drew | apply Grown.alloc | apply gdrewN | (refine Grown.setCell ?_ (by simp <;> omega) _) | (refine gtrans ?_ (by assumption)))))⟩)
end Fq
end Go.Proofs.Ytbcjhmdkpkmieab
namespace Go.Proofs.Ytbcjhmdkpkmieab
open Go.RowKit
set_option maxRecDepth 20000 in
set_option maxHeartbeats 400000 in
theorem isinf6_ (n : Bool) (m : Nat) (hm : m < 9223372036854775808) (w : World) : Calls Try.prog 57 #[.int .u64 ((Fq.wD n m : Nat) : Int)] w fun e w' => e = .returned (.bool (decide (m = 9218868437227405312))) ∧ w' = w := by
  obtain ⟨X, hX⟩ : ∃ X, X = Fq.wD n m := ⟨_, rfl⟩
  have f1 := (Fq.noTop6 n m X hm hX).1
  rw [← hX]
  clear hX hm
  by_cases c : m = 9218868437227405312
  · have t1 : ((m : Int) == 9218868437227405312) = true := by rw [c]; rfl
    rw [decide_eq_true c]
    clear c
    go_enter Try.func57, Try.ntmps57
    go_wp2
    exact bodyPost_ret (v := .bool true) (by simp [results, Try.results57, go_sem] <;> simpa using t1) rfl ⟨rfl, rfl⟩
  · have t1 : ((m : Int) == 9218868437227405312) = false := by simp; omega
    rw [decide_eq_false c]
    clear c
    go_enter Try.func57, Try.ntmps57
    go_wp2
    exact bodyPost_ret (v := .bool false) (by simp [results, Try.results57, go_sem] <;> simpa using t1) rfl ⟨rfl, rfl⟩
theorem rempty9_ (w : World) : Calls Try.prog 36 #[] w fun e w' => e = .returned (.agg #[.int .u64 9218868437227405312, .int .u64 18442240474082181120]) ∧ Kp w w' := by
  refine (Fq.rempty_ w).mono ?_
  rintro e w' ⟨rfl, rfl⟩
  exact ⟨rfl, (Kp.refl w).alloc _⟩
end Go.Proofs.Ytbcjhmdkpkmieab
namespace Go.Proofs.Ytbcjhmdkpkmieab
open Go.RowKit
set_option maxRecDepth 20000 in
set_option maxHeartbeats 1000000 in
theorem out9_ (a b : Nat) (w : World) : Calls Try.prog 12 #[.agg #[.float .f64 a, .float .f64 b]] w fun e w' => e = .returned (.agg #[.int .u64 ((a : Nat) : Int), .int .u64 ((b : Nat) : Int)]) ∧ Kp w w' := by
  have h1 := Fq.fb64 a
  have h2 := Fq.fb64 b
  generalize (a : Int) = X at h1 ⊢
  generalize (b : Int) = Y at h2 ⊢
  go_enter Try.func12, Try.ntmps12
  go_wp2
  go_region_held3 (fun w' => w'.cell? ⟨w.heap.size, 0, none⟩ = some (.float .f64 a) ∧ w'.cell? ⟨w.heap.size, 1, none⟩ = some (.float .f64 b)) (simp [go_sem, World.cell?_alloc_past]) (fail)
  go_wp2
  exact bodyPost_ret (v := .agg #[.int .u64 X, .int .u64 Y]) (by simp [results, Try.results12, go_sem]) rfl ⟨rfl, (by repeat (with_reducible (first | assumption | exact Kp.refl _ | apply Kp.drew | apply Kp.alloc | apply Kp.drewN | (refine Kp.setCell ?_ (by first | omega | (simp <;> omega)) _) | (refine Kp.trans ?_ (by assumption)))))⟩
set_option maxRecDepth 20000 in
set_option maxHeartbeats 1000000 in
theorem dinA_ (X1 X2 D : Int) (A1 A2 : Nat) (hin : ∀ w : World, Calls Try.prog 11 #[.agg #[.int .u64 X1, .int .u64 X2]] w fun e w' => e = .returned (.agg #[.float .f64 A1, .float .f64 A2]) ∧ Kp w w') (w : World) : Calls Try.prog 16 #[.agg #[.int .u64 X1, .int .u64 X2, .int .i64 D]] w fun e w' => e = .returned (.agg #[.float .f64 A1, .float .f64 A2, .int .i64 D]) ∧ Kp w w' := by
  go_enter Try.func16, Try.ntmps16
  go_wp2
  go_region_held3 (fun w' => w'.cell? ⟨w.heap.size, 0, none⟩ = some (.int .u64 X1) ∧ w'.cell? ⟨w.heap.size, 1, none⟩ = some (.int .u64 X2) ∧ w'.cell? ⟨w.heap.size, 2, none⟩ = some (.int .i64 D)) (first | (with_reducible exact ⟨x0, x1, x2⟩) | (simp [go_sem, x0, x1, x2]; done) | (simp [go_sem])) (first | (go_at_call 11; refine (hin _).mono ?_; rintro e w1 ⟨rfl, g1⟩; have k1 : Kp w w1 := Kp.trans ((((Kp.refl w).alloc _).alloc _).drew) g1; obtain ⟨x0, x1, x2, x3, x4, x5⟩ := H3c.keep (H3c.keep (H3c.keep (H3c.new w (.int .u64 X1) (.int .u64 X2) (.int .i64 D) 27) ((Kp.refl _).alloc (.cells #[.float .f64 0, .float .f64 0, .int .i64 0] 41))) (Kp.drew (Kp.refl _))) g1; obtain ⟨r0, r1, r2, r3, r4, r5⟩ := H3c.keep (H3c.keep (H3c.two w #[.int .u64 X1, .int .u64 X2, .int .i64 D] (.float .f64 0) (.float .f64 0) (.int .i64 0) 27 41) (Kp.drew (Kp.refl _))) g1))
  go_wp2
  exact bodyPost_ret (v := .agg #[.float .f64 A1, .float .f64 A2, .int .i64 D]) (by simp [results, Try.results16, go_sem, r0, r1, r2]) rfl ⟨rfl, (((k1.setCell (by simp) _).setCell (by simp) _).setCell (by simp) _)⟩
set_option maxRecDepth 20000 in
set_option maxHeartbeats 1000000 in
theorem doutA_ (X1 X2 D : Int) (A1 A2 : Nat) (hin : ∀ w : World, Calls Try.prog 12 #[.agg #[.float .f64 A1, .float .f64 A2]] w fun e w' => e = .returned (.agg #[.int .u64 X1, .int .u64 X2]) ∧ Kp w w') (w : World) : Calls Try.prog 17 #[.agg #[.float .f64 A1, .float .f64 A2, .int .i64 D]] w fun e w' => e = .returned (.agg #[.int .u64 X1, .int .u64 X2, .int .i64 D]) ∧ Kp w w' := by
  go_enter Try.func17, Try.ntmps17
  go_wp2
  go_region_held3 (fun w' => w'.cell? ⟨w.heap.size, 0, none⟩ = some (.float .f64 A1) ∧ w'.cell? ⟨w.heap.size, 1, none⟩ = some (.float .f64 A2) ∧ w'.cell? ⟨w.heap.size, 2, none⟩ = some (.int .i64 D)) (first | (with_reducible exact ⟨x0, x1, x2⟩) | (simp [go_sem, x0, x1, x2]; done) | (simp [go_sem])) (first | (go_at_call 12; refine (hin _).mono ?_; rintro e w1 ⟨rfl, g1⟩; have k1 : Kp w w1 := Kp.trans ((((Kp.refl w).alloc _).alloc _).drew) g1; obtain ⟨x0, x1, x2, x3, x4, x5⟩ := H3c.keep (H3c.keep (H3c.keep (H3c.new w (.float .f64 A1) (.float .f64 A2) (.int .i64 D) 41) ((Kp.refl _).alloc (.cells #[.int .u64 0, .int .u64 0, .int .i64 0] 27))) (Kp.drew (Kp.refl _))) g1; obtain ⟨r0, r1, r2, r3, r4, r5⟩ := H3c.keep (H3c.keep (H3c.two w #[.float .f64 A1, .float .f64 A2, .int .i64 D] (.int .u64 0) (.int .u64 0) (.int .i64 0) 41 27) (Kp.drew (Kp.refl _))) g1))
  go_wp2
  exact bodyPost_ret (v := .agg #[.int .u64 X1, .int .u64 X2, .int .i64 D]) (by simp [results, Try.results17, go_sem, r0, r1, r2]) rfl ⟨rfl, (((k1.setCell (by simp) _).setCell (by simp) _).setCell (by simp) _)⟩
theorem din_ (a b : Nat) (D : Int) (w : World) : Calls Try.prog 16 #[.agg #[.int .u64 ((a : Nat) : Int), .int .u64 ((b : Nat) : Int), .int .i64 D]] w fun e w' => e = .returned (.agg #[.float .f64 a, .float .f64 b, .int .i64 D]) ∧ Kp w w' := dinA_ _ _ D a b (in9_ a b) w
theorem dout_ (a b : Nat) (D : Int) (w : World) : Calls Try.prog 17 #[.agg #[.float .f64 a, .float .f64 b, .int .i64 D]] w fun e w' => e = .returned (.agg #[.int .u64 ((a : Nat) : Int), .int .u64 ((b : Nat) : Int), .int .i64 D]) ∧ Kp w w' := doutA_ _ _ D a b (out9_ a b) w
end Go.Proofs.Ytbcjhmdkpkmieab
namespace Go.Proofs.Ytbcjhmdkpkmieab
open Go.RowKit
open Go
namespace B8
def ULV (x : Nat) : Value := .int .u64 (x : Int)
theorem OG.kp {f : Nat → Value} {T : TypeId} {w w' : World} {base : Nat} {v : Value} {ps : List (Nat × Nat)} (h : OG f T w base v ps) (k : Kp w w') : OG f T w' base v ps := by
  refine ⟨h.1, ?_⟩
  rcases h.2 with h' | ⟨g, cap, cur, h1, h2, h3, h4, h5, h6, h7⟩
  · exact Or.inl h'
  · have hlt : g < w.heap.size := by
      by_cases c : g < w.heap.size
      · exact c
      · rw [Array.getElem?_eq_none (by simpa using c)] at h3; cases h3
    exact Or.inr ⟨g, cap, cur, h1, h2, by rw [Below.block k g hlt]; exact h3, h4, h5, h6, h7⟩
theorem og_block {f : Nat → Value} {T : TypeId} {w : World} {base : Nat} {v : Value} {ps : List (Nat × Nat)} (h : OG f T w base v ps) : ∀ k, v.ownBlock = some k → base ≤ k := fun k hk => (World.ownsRow.lt h k hk).1
theorem take_push2 (ps : List (Nat × Nat)) (k : Nat) (h : k < ps.length) : ps.take k ++ [((ps.getD k (0, 0)).1, (ps.getD k (0, 0)).2)] = ps.take (k + 1) := by
  have e : ps.getD k (0, 0) = ps[k] := by simp [List.getD, h]
  rw [List.take_add_one, List.getElem?_eq_getElem h, e]
  rfl
end B8
end Go.Proofs.Ytbcjhmdkpkmieab
namespace Go.Proofs.Ytbcjhmdkpkmieab
open Go.RowKit
open Go
namespace B8
theorem fms_len : ∀ ps, (fms ps).length = 16 * ps.length
  | [] => rfl
  | q :: r => by simp only [fms, List.length_append, fm_len, fms_len r, List.length_cons]; omega
theorem bb_len (ps : List (Nat × Nat)) : (bb ps).length = 1 + 16 * ps.length := by unfold bb; rw [List.length_cons, fms_len]; omega
end B8
end Go.Proofs.Ytbcjhmdkpkmieab
namespace Go.Proofs.Ytbcjhmdkpkmieab
open Go.RowKit
open Go
namespace B8
set_option maxRecDepth 20000 in
set_option maxHeartbeats 1000000 in
theorem rplain_ (X Y : Int) (E1 E2 : Bool) (t1 : (X == 9223372036854775808) = E1) (t2 : (Y == 9223372036854775808) = E2) (w : World) : Calls Try.prog 39 #[.agg #[.int .u64 X, .int .u64 Y]] w fun e w' => e = .returned (.agg #[.int .u64 (if E1 then 0 else X), .int .u64 (if E2 then 0 else Y)]) ∧ Kp w w' := by
  cases E1 <;> cases E2
  all_goals (
    go_enter Try.func39, Try.ntmps39
    go_wp2
    exact bodyPost_ret (v := .agg #[.int .u64 _, .int .u64 _]) (by simp [results, Try.results39, go_sem]) rfl ⟨rfl, (by repeat (with_reducible (first | assumption | exact Kp.refl _ | apply Kp.drew | apply Kp.alloc | apply Kp.drewN | (refine Kp.setCell ?_ (by first | omega | (simp <;> omega)) _) | (refine Kp.trans ?_ (by assumption)))))⟩)
set_option maxRecDepth 20000 in
set_option maxHeartbeats 1000000 in
theorem rnai13_ (w : World) : Calls Try.prog 41 #[] w fun e w' => e = .returned (.agg #[.int .u64 9218868437227405312, .int .u64 18442240474082181120, .int .i64 0]) ∧ Kp w w' := by
  go_enter Try.func41, Try.ntmps41
  go_wp2_with (first | (go_at_call 36; refine (Fq.rempty_ _).mono ?_; rintro e w1 ⟨rfl, rfl⟩))
  exact bodyPost_ret (v := .agg #[.int .u64 9218868437227405312, .int .u64 18442240474082181120, .int .i64 0]) (by simp [results, Try.results41, go_sem]) rfl ⟨rfl, (by repeat (with_reducible (first | assumption | exact Kp.refl _ | apply Kp.drew | apply Kp.alloc | apply Kp.drewN | (refine Kp.setCell ?_ (by first | omega | (simp <;> omega)) _) | (refine Kp.trans ?_ (by assumption)))))⟩
end B8
end Go.Proofs.Ytbcjhmdkpkmieab
namespace Go.Proofs.Ytbcjhmdkpkmieab
open Go.RowKit
open Go
namespace B8
set_option maxRecDepth 20000 in
set_option maxHeartbeats 1000000 in
theorem rvalA_ (X Y D : Int) (t1 : (X == 9218868437227405312) = true) (t2 : (Y == 18442240474082181120) = true) (t3 : (D == 0) = true) (w : World) : Calls Try.prog 42 #[.agg #[.int .u64 X, .int .u64 Y, .int .i64 D]] w fun e w' => e = .returned (.bool true) ∧ Kp w w' := by
  go_enter Try.func42, Try.ntmps42
  go_upto_region 1 with fail
  have sx := H3c.new w (.int .u64 X) (.int .u64 Y) (.int .i64 D) 27
  have kw : Kp w (w.alloc (.cells #[.int .u64 X, .int .u64 Y, .int .i64 D] 27)) := (Kp.refl w).alloc _
  generalize w.alloc (.cells #[.int .u64 X, .int .u64 Y, .int .i64 D] 27) = W at sx kw ⊢
  obtain ⟨x0, x1, x2, x3, x4, x5⟩ := id sx
  refine Fq.wp_region_grow (by kernel_rfl) (by kernel_rfl) (fun ι _ G hG hall => ?_)
  have cc0 : ∀ n, (G n).cell? ⟨w.heap.size, 0, none⟩ = some (.int .u64 X) := fun n => Fq.gkeep (hG n) x0
  have cc1 : ∀ n, (G n).cell? ⟨w.heap.size, 1, none⟩ = some (.int .u64 Y) := fun n => Fq.gkeep (hG n) x1
  have cc2 : ∀ n, (G n).cell? ⟨w.heap.size, 2, none⟩ = some (.int .i64 D) := fun n => Fq.gkeep (hG n) x2
  repeat (go_big_quiet_step (first | (go_at_call 41; exact (rnai13_ _).mono (fun e w' h => ⟨h.1, hall _ (Fq.gtrans (hG _) h.2)⟩))))
  refine wpQuiet_nil ?_
  rintro _ ⟨nq, rfl⟩
  have gq : Kp W (G nq) := hG nq
  clear cc0 cc1 cc2 hall hG
  replace sx := H3c.keep sx gq
  replace kw := Kp.trans kw gq
  clear x0 x1 x2 x3 x4 x5
  obtain ⟨x0, x1, x2, x3, x4, x5⟩ := id sx
  go_wp2
  exact bodyPost_ret (v := .bool true) (by simp [results, Try.results42, go_sem]) rfl ⟨rfl, kw⟩
set_option maxRecDepth 20000 in
set_option maxHeartbeats 1000000 in
theorem rvalB_ (X Y D : Int) (E1 E2 E3 : Bool) (t1 : (X == 9218868437227405312) = E1) (t2 : (Y == 18442240474082181120) = E2) (t3 : (D == 0) = E3) (u : ((E1 && E2) && E3) = false) (hv : ∀ w : World, Calls Try.prog 40 #[.agg #[.int .u64 X, .int .u64 Y]] w fun e w' => e = .returned (.bool false) ∧ Kp w w') (w : World) : Calls Try.prog 42 #[.agg #[.int .u64 X, .int .u64 Y, .int .i64 D]] w fun e w' => e = .returned (.bool false) ∧ Kp w w' := by
  cases E1 <;> cases E2 <;> cases E3
  case true.true.true => cases u
  all_goals (
    clear u
    go_enter Try.func42, Try.ntmps42
    go_upto_region 1 with fail
    have sx := H3c.new w (.int .u64 X) (.int .u64 Y) (.int .i64 D) 27
    have kw : Kp w (w.alloc (.cells #[.int .u64 X, .int .u64 Y, .int .i64 D] 27)) := (Kp.refl w).alloc _
    generalize w.alloc (.cells #[.int .u64 X, .int .u64 Y, .int .i64 D] 27) = W at sx kw ⊢
    obtain ⟨x0, x1, x2, x3, x4, x5⟩ := id sx
    refine Fq.wp_region_grow (by kernel_rfl) (by kernel_rfl) (fun ι _ G hG hall => ?_)
    have cc0 : ∀ n, (G n).cell? ⟨w.heap.size, 0, none⟩ = some (.int .u64 X) := fun n => Fq.gkeep (hG n) x0
    have cc1 : ∀ n, (G n).cell? ⟨w.heap.size, 1, none⟩ = some (.int .u64 Y) := fun n => Fq.gkeep (hG n) x1
    have cc2 : ∀ n, (G n).cell? ⟨w.heap.size, 2, none⟩ = some (.int .i64 D) := fun n => Fq.gkeep (hG n) x2
    repeat (go_big_quiet_step (first | (go_at_call 41; exact (rnai13_ _).mono (fun e w' h => ⟨h.1, hall _ (Fq.gtrans (hG _) h.2)⟩))))
    refine wpQuiet_nil ?_
    rintro _ ⟨nq, rfl⟩
    have gq : Kp W (G nq) := hG nq
    clear cc0 cc1 cc2 hall hG
    replace sx := H3c.keep sx gq
    replace kw := Kp.trans kw gq
    clear x0 x1 x2 x3 x4 x5
    obtain ⟨x0, x1, x2, x3, x4, x5⟩ := id sx
    go_wp2_with (first | (go_at_call 40; refine (hv _).mono ?_; rintro e w1 ⟨rfl, g1⟩; replace sx := H3c.keep sx g1; replace kw := Kp.trans kw g1; clear x0 x1 x2 x3 x4 x5; obtain ⟨x0, x1, x2, x3, x4, x5⟩ := id sx))
    exact bodyPost_ret (v := .bool false) (by simp [results, Try.results42, go_sem]) rfl ⟨rfl, kw⟩)
set_option maxRecDepth 20000 in
set_option maxHeartbeats 1000000 in
theorem rvalC_ (X Y D : Int) (E1 E2 E3 : Bool) (t1 : (X == 9218868437227405312) = E1) (t2 : (Y == 18442240474082181120) = E2) (t3 : (D == 0) = E3) (u : ((E1 && E2) && E3) = false) (hv : ∀ w : World, Calls Try.prog 40 #[.agg #[.int .u64 X, .int .u64 Y]] w fun e w' => e = .returned (.bool true) ∧ Kp w w') (t4 : (D == 4) = true) (w : World) : Calls Try.prog 42 #[.agg #[.int .u64 X, .int .u64 Y, .int .i64 D]] w fun e w' => e = .returned (.bool true) ∧ Kp w w' := by
  cases E1 <;> cases E2 <;> cases E3
  case true.true.true => cases u
  all_goals (
    clear u
    go_enter Try.func42, Try.ntmps42
    go_upto_region 1 with fail
    have sx := H3c.new w (.int .u64 X) (.int .u64 Y) (.int .i64 D) 27
    have kw : Kp w (w.alloc (.cells #[.int .u64 X, .int .u64 Y, .int .i64 D] 27)) := (Kp.refl w).alloc _
    generalize w.alloc (.cells #[.int .u64 X, .int .u64 Y, .int .i64 D] 27) = W at sx kw ⊢
    obtain ⟨x0, x1, x2, x3, x4, x5⟩ := id sx
    refine Fq.wp_region_grow (by kernel_rfl) (by kernel_rfl) (fun ι _ G hG hall => ?_)
    have cc0 : ∀ n, (G n).cell? ⟨w.heap.size, 0, none⟩ = some (.int .u64 X) := fun n => Fq.gkeep (hG n) x0
    have cc1 : ∀ n, (G n).cell? ⟨w.heap.size, 1, none⟩ = some (.int .u64 Y) := fun n => Fq.gkeep (hG n) x1
    have cc2 : ∀ n, (G n).cell? ⟨w.heap.size, 2, none⟩ = some (.int .i64 D) := fun n => Fq.gkeep (hG n) x2
    repeat (go_big_quiet_step (first | (go_at_call 41; exact (rnai13_ _).mono (fun e w' h => ⟨h.1, hall _ (Fq.gtrans (hG _) h.2)⟩))))
    refine wpQuiet_nil ?_
    rintro _ ⟨nq, rfl⟩
    have gq : Kp W (G nq) := hG nq
    clear cc0 cc1 cc2 hall hG
    replace sx := H3c.keep sx gq
    replace kw := Kp.trans kw gq
    clear x0 x1 x2 x3 x4 x5
    obtain ⟨x0, x1, x2, x3, x4, x5⟩ := id sx
    go_wp2_with (first | (go_at_call 40; refine (hv _).mono ?_; rintro e w1 ⟨rfl, g1⟩; replace sx := H3c.keep sx g1; replace kw := Kp.trans kw g1; clear x0 x1 x2 x3 x4 x5; obtain ⟨x0, x1, x2, x3, x4, x5⟩ := id sx))
    exact bodyPost_ret (v := .bool true) (by simp [results, Try.results42, go_sem]) rfl ⟨rfl, kw⟩)
set_option maxRecDepth 20000 in
set_option maxHeartbeats 1000000 in
theorem rvalD_ (X Y D : Int) (t1 : (X == 9218868437227405312) = true) (t2 : (Y == 18442240474082181120) = true) (t3 : (D == 0) = false) (hv : ∀ w : World, Calls Try.prog 40 #[.agg #[.int .u64 X, .int .u64 Y]] w fun e w' => e = .returned (.bool true) ∧ Kp w w') (t4 : (D == 4) = false) (w : World) : Calls Try.prog 42 #[.agg #[.int .u64 X, .int .u64 Y, .int .i64 D]] w fun e w' => e = .returned (.bool false) ∧ Kp w w' := by
  go_enter Try.func42, Try.ntmps42
  go_upto_region 1 with fail
  have sx := H3c.new w (.int .u64 X) (.int .u64 Y) (.int .i64 D) 27
  have kw : Kp w (w.alloc (.cells #[.int .u64 X, .int .u64 Y, .int .i64 D] 27)) := (Kp.refl w).alloc _
  generalize w.alloc (.cells #[.int .u64 X, .int .u64 Y, .int .i64 D] 27) = W at sx kw ⊢
  obtain ⟨x0, x1, x2, x3, x4, x5⟩ := id sx
  refine Fq.wp_region_grow (by kernel_rfl) (by kernel_rfl) (fun ι _ G hG hall => ?_)
  have cc0 : ∀ n, (G n).cell? ⟨w.heap.size, 0, none⟩ = some (.int .u64 X) := fun n => Fq.gkeep (hG n) x0
  have cc1 : ∀ n, (G n).cell? ⟨w.heap.size, 1, none⟩ = some (.int .u64 Y) := fun n => Fq.gkeep (hG n) x1
  have cc2 : ∀ n, (G n).cell? ⟨w.heap.size, 2, none⟩ = some (.int .i64 D) := fun n => Fq.gkeep (hG n) x2
  repeat (go_big_quiet_step (first | (go_at_call 41; exact (rnai13_ _).mono (fun e w' h => ⟨h.1, hall _ (Fq.gtrans (hG _) h.2)⟩))))
  refine wpQuiet_nil ?_
  rintro _ ⟨nq, rfl⟩
  have gq : Kp W (G nq) := hG nq
  clear cc0 cc1 cc2 hall hG
  replace sx := H3c.keep sx gq
  replace kw := Kp.trans kw gq
  clear x0 x1 x2 x3 x4 x5
  obtain ⟨x0, x1, x2, x3, x4, x5⟩ := id sx
  go_upto_region 7 with (first | (go_at_call 40; refine (hv _).mono ?_; rintro e w1 ⟨rfl, g1⟩; replace sx := H3c.keep sx g1; replace kw := Kp.trans kw g1; clear x0 x1 x2 x3 x4 x5; obtain ⟨x0, x1, x2, x3, x4, x5⟩ := id sx))
  refine Fq.wp_region_grow (by kernel_rfl) (by kernel_rfl) (fun ι _ G hG hall => ?_)
  have cc0 : ∀ n, (G n).cell? ⟨w.heap.size, 0, none⟩ = some (.int .u64 X) := fun n => Fq.gkeep (hG n) x0
  have cc1 : ∀ n, (G n).cell? ⟨w.heap.size, 1, none⟩ = some (.int .u64 Y) := fun n => Fq.gkeep (hG n) x1
  have cc2 : ∀ n, (G n).cell? ⟨w.heap.size, 2, none⟩ = some (.int .i64 D) := fun n => Fq.gkeep (hG n) x2
  repeat (go_big_quiet_step (first | (go_at_call 36; exact (rempty9_ _).mono (fun e w' h => ⟨h.1, hall _ (Fq.gtrans (hG _) h.2)⟩))))
  refine wpQuiet_nil ?_
  rintro _ ⟨nq, rfl⟩
  have gq : Kp w1 (G nq) := hG nq
  clear cc0 cc1 cc2 hall hG
  replace sx := H3c.keep sx gq
  replace kw := Kp.trans kw gq
  clear x0 x1 x2 x3 x4 x5
  obtain ⟨x0, x1, x2, x3, x4, x5⟩ := id sx
  go_wp2
  exact bodyPost_ret (v := .bool false) (by simp [results, Try.results42, go_sem]) rfl ⟨rfl, kw⟩
set_option maxRecDepth 20000 in
set_option maxHeartbeats 2000000 in
theorem rvalE_ (X Y D : Int) (E1 E2 E3 : Bool) (t1 : (X == 9218868437227405312) = E1) (t2 : (Y == 18442240474082181120) = E2) (t3 : (D == 0) = E3) (u : (E1 && E2) = false) (hv : ∀ w : World, Calls Try.prog 40 #[.agg #[.int .u64 X, .int .u64 Y]] w fun e w' => e = .returned (.bool true) ∧ Kp w w') (t4 : (D == 4) = false) (F8 F12 F16 i1 i2 : Bool) (t8 : (D == 8) = F8) (t12 : (D == 12) = F12) (t16 : (D == 16) = F16) (x1 : (F8 && F12) = false) (x2 : (F8 && F16) = false) (x3 : (F12 && F16) = false) (h1 : ∀ w : World, Calls Try.prog 57 #[.int .u64 X] w fun e w' => e = .returned (.bool i1) ∧ w' = w) (h2 : ∀ w : World, Calls Try.prog 57 #[.int .u64 Y] w fun e w' => e = .returned (.bool i2) ∧ w' = w) (w : World) : Calls Try.prog 42 #[.agg #[.int .u64 X, .int .u64 Y, .int .i64 D]] w fun e w' => e = .returned (.bool (F8 || F12 || (F16 && !(i1 || i2)))) ∧ Kp w w' := by
  have u' : ((E1 && E2) && E3) = false := by rw [u]; rfl
  cases E1 <;> cases E2
  case true.true => cases u
  all_goals (
    clear u
    go_enter Try.func42, Try.ntmps42
    go_upto_region 1 with fail
    have sx := H3c.new w (.int .u64 X) (.int .u64 Y) (.int .i64 D) 27
    have kw : Kp w (w.alloc (.cells #[.int .u64 X, .int .u64 Y, .int .i64 D] 27)) := (Kp.refl w).alloc _
    generalize w.alloc (.cells #[.int .u64 X, .int .u64 Y, .int .i64 D] 27) = W at sx kw ⊢
    obtain ⟨x0, x1, x2, x3, x4, x5⟩ := id sx
    refine Fq.wp_region_grow (by kernel_rfl) (by kernel_rfl) (fun ι _ G hG hall => ?_)
    have cc0 : ∀ n, (G n).cell? ⟨w.heap.size, 0, none⟩ = some (.int .u64 X) := fun n => Fq.gkeep (hG n) x0
    have cc1 : ∀ n, (G n).cell? ⟨w.heap.size, 1, none⟩ = some (.int .u64 Y) := fun n => Fq.gkeep (hG n) x1
    have cc2 : ∀ n, (G n).cell? ⟨w.heap.size, 2, none⟩ = some (.int .i64 D) := fun n => Fq.gkeep (hG n) x2
    repeat (go_big_quiet_step (first | (go_at_call 41; exact (rnai13_ _).mono (fun e w' h => ⟨h.1, hall _ (Fq.gtrans (hG _) h.2)⟩))))
    refine wpQuiet_nil ?_
    rintro _ ⟨nq, rfl⟩
    have gq : Kp W (G nq) := hG nq
    clear cc0 cc1 cc2 hall hG
    replace sx := H3c.keep sx gq
    replace kw := Kp.trans kw gq
    clear x0 x1 x2 x3 x4 x5
    obtain ⟨x0, x1, x2, x3, x4, x5⟩ := id sx
    go_upto_region 7 with (first | (go_at_call 40; refine (hv _).mono ?_; rintro e w1 ⟨rfl, g1⟩; replace sx := H3c.keep sx g1; replace kw := Kp.trans kw g1; clear x0 x1 x2 x3 x4 x5; obtain ⟨x0, x1, x2, x3, x4, x5⟩ := id sx))
    refine Fq.wp_region_grow (by kernel_rfl) (by kernel_rfl) (fun ι _ G hG hall => ?_)
    have cc0 : ∀ n, (G n).cell? ⟨w.heap.size, 0, none⟩ = some (.int .u64 X) := fun n => Fq.gkeep (hG n) x0
    have cc1 : ∀ n, (G n).cell? ⟨w.heap.size, 1, none⟩ = some (.int .u64 Y) := fun n => Fq.gkeep (hG n) x1
    have cc2 : ∀ n, (G n).cell? ⟨w.heap.size, 2, none⟩ = some (.int .i64 D) := fun n => Fq.gkeep (hG n) x2
    repeat (go_big_quiet_step (first | (go_at_call 36; exact (rempty9_ _).mono (fun e w' h => ⟨h.1, hall _ (Fq.gtrans (hG _) h.2)⟩))))
    refine wpQuiet_nil ?_
    rintro _ ⟨nq, rfl⟩
    have gq : Kp w1 (G nq) := hG nq
    clear cc0 cc1 cc2 hall hG
    replace sx := H3c.keep sx gq
    replace kw := Kp.trans kw gq
    clear x0 x1 x2 x3 x4 x5
    obtain ⟨x0, x1, x2, x3, x4, x5⟩ := id sx
    cases i1 <;> cases F8 <;> cases F12 <;> cases F16
    all_goals first | exact absurd x1 (by decide) | exact absurd x2 (by decide) | exact absurd x3 (by decide) | (
      clear x1 x2 x3
      go_wp2_with (first | (go_at_call_of 57 (Value.int .u64 X); refine (h1 _).mono ?_; rintro e wi ⟨rfl, rfl⟩) | (go_at_call_of 57 (Value.int .u64 Y); refine (h2 _).mono ?_; rintro e wi ⟨rfl, rfl⟩))
      exact bodyPost_ret (v := .bool _) (by simp [results, Try.results42, go_sem]) rfl ⟨rfl, kw⟩))
end B8
end Go.Proofs.Ytbcjhmdkpkmieab
namespace Go.Proofs.Ytbcjhmdkpkmieab
open Go.RowKit
open Go
namespace B8
theorem rvalid9n_ (a b : Nat) (ha : a < 18446744073709551616) (hb : b < 18446744073709551616) (w : World) : Calls Try.prog 40 #[.agg #[.int .u64 ((a : Nat) : Int), .int .u64 ((b : Nat) : Int)]] w fun e w' => e = .returned (.bool (Fq.vld a b)) ∧ Kp w w' := by
  obtain ⟨n, m, hm, rfl⟩ := Fq.exD a ha
  obtain ⟨n', m', hm', rfl⟩ := Fq.exD b hb
  exact Fq.rvalid_ n n' m m' hm hm' w
theorem isinfn_ (a : Nat) (ha : a < 18446744073709551616) (w : World) : Calls Try.prog 57 #[.int .u64 ((a : Nat) : Int)] w fun e w' => e = .returned (.bool (decide (a = 9218868437227405312 ∨ a = 18442240474082181120))) ∧ w' = w := by
  obtain ⟨n, m, hm, rfl⟩ := Fq.exD a ha
  have h := isinf6_ n m hm w
  rw [show decide (m = 9218868437227405312) = decide (Fq.wD n m = 9218868437227405312 ∨ Fq.wD n m = 18442240474082181120) from by
    congr 1; apply propext
    unfold Fq.wD
    cases n <;> simp <;> omega] at h
  exact h
theorem twoF (D j k : Int) (h : j ≠ k) : (decide (D = j) && decide (D = k)) = false := by
  by_cases c : D = j
  · rw [decide_eq_false (fun e => h (by rw [← c, e]) : ¬ D = k), Bool.and_false]
  · rw [decide_eq_false c]; rfl
theorem bneI (D k : Int) (h : D ≠ k) : (D != k) = true := by simpa using h
theorem rval13_ (a b : Nat) (D : Int) (ha : a < 18446744073709551616) (hb : b < 18446744073709551616) (w : World) : Calls Try.prog 42 #[.agg #[.int .u64 ((a : Nat) : Int), .int .u64 ((b : Nat) : Int), .int .i64 D]] w fun e w' => e = .returned (.bool (vdD a b D)) ∧ Kp w w' := by
  have hv := rvalid9n_ a b ha hb
  have h1 := isinfn_ a ha
  have h2 := isinfn_ b hb
  have t1 : ((a : Int) == 9218868437227405312) = decide (a = 9218868437227405312) := beqN a 9218868437227405312
  have t2 : ((b : Int) == 18442240474082181120) = decide (b = 18442240474082181120) := beqN b 18442240474082181120
  unfold vdD
  by_cases cN : a = 9218868437227405312 ∧ b = 18442240474082181120
  · by_cases c0 : D = 0
    · rw [decide_eq_true (⟨cN.1, cN.2, c0⟩ : a = 9218868437227405312 ∧ b = 18442240474082181120 ∧ D = 0), Bool.true_or]
      exact rvalA_ _ _ D (by rw [t1, decide_eq_true cN.1]) (by rw [t2, decide_eq_true cN.2]) (by rw [beqI, decide_eq_true c0]) w
    · rw [decide_eq_false (fun h => c0 h.2.2 : ¬ (a = 9218868437227405312 ∧ b = 18442240474082181120 ∧ D = 0)), Bool.false_or]
      have hvt : Fq.vld a b = true := by unfold Fq.vld; rw [decide_eq_true cN]; rfl
      rw [hvt] at hv ⊢
      rw [Bool.true_and, decide_eq_true cN]
      by_cases c4 : D = 4
      · rw [decide_eq_true c4]
        exact rvalC_ _ _ D _ _ _ rfl rfl rfl (by rw [beqI D 0, decide_eq_false c0, Bool.and_false]) hv (by rw [beqI, decide_eq_true c4]) w
      · rw [decide_eq_false c4]
        exact rvalD_ _ _ D (by rw [t1, decide_eq_true cN.1]) (by rw [t2, decide_eq_true cN.2]) (by rw [beqI, decide_eq_false c0]) hv (by rw [beqI, decide_eq_false c4]) w
  · have u : (decide (a = 9218868437227405312) && decide (b = 18442240474082181120)) = false := by
      by_cases x : a = 9218868437227405312 <;> by_cases y : b = 18442240474082181120 <;> simp [x, y]; exact cN ⟨x, y⟩
    rw [decide_eq_false (fun h => cN ⟨h.1, h.2.1⟩ : ¬ (a = 9218868437227405312 ∧ b = 18442240474082181120 ∧ D = 0)), Bool.false_or, decide_eq_false cN]
    cases hvv : Fq.vld a b
    · rw [hvv] at hv
      exact rvalB_ _ _ D _ _ _ t1 t2 rfl (by rw [u]; rfl) hv w
    · rw [hvv] at hv
      rw [Bool.true_and]
      by_cases c4 : D = 4
      · rw [decide_eq_true c4]
        exact rvalC_ _ _ D _ _ _ t1 t2 rfl (by rw [u]; rfl) hv (by rw [beqI, decide_eq_true c4]) w
      · rw [decide_eq_false c4]
        exact rvalE_ _ _ D _ _ _ t1 t2 rfl u hv (by rw [beqI, decide_eq_false c4]) _ _ _ _ _ (beqI D 8) (beqI D 12) (beqI D 16) (twoF D 8 12 (by decide)) (twoF D 8 16 (by decide)) (twoF D 12 16 (by decide)) h1 h2 w
theorem rplainN_ (a b : Nat) (w : World) : Calls Try.prog 39 #[.agg #[.int .u64 ((a : Nat) : Int), .int .u64 ((b : Nat) : Int)]] w fun e w' => e = .returned (.agg #[.int .u64 ((Fq.pla a : Nat) : Int), .int .u64 ((Fq.pla b : Nat) : Int)]) ∧ Kp w w' := by
  have h := rplain_ (a : Int) (b : Int) _ _ (beqN a 9223372036854775808) (beqN b 9223372036854775808) w
  have e : ∀ x : Nat, (if decide (x = 9223372036854775808) = true then (0 : Int) else (x : Int)) = ((Fq.pla x : Nat) : Int) := by
    intro x
    unfold Fq.pla
    by_cases c : x = 9223372036854775808
    · rw [if_pos c, decide_eq_true c]; rfl
    · rw [if_neg c, decide_eq_false c]; rfl
  rw [e a, e b] at h
  exact h
end B8
end Go.Proofs.Ytbcjhmdkpkmieab
namespace Go.Proofs.Ytbcjhmdkpkmieab
open Go.RowKit
open Go
namespace B8
theorem vld_pw (L H : Int) (hd : VdZ L H) : Fq.vld (pw L) (pw H) = true := by
  have r := Rd.of hd
  have i1 := pw_inj L 9218868437227405312 hd.lo (by unfold BdZ; omega)
  have i4 := pw_inj H (-9218868437227405312) hd.hi (by unfold BdZ; omega)
  rw [pw_I] at i1
  rw [pw_MI] at i4
  by_cases c : L = 9218868437227405312
  · have eH : H = -9218868437227405312 := by unfold VdZ at hd; omega
    unfold Fq.vld
    rw [decide_eq_true ⟨i1.2 c, i4.2 eH⟩]; rfl
  · have := vld_pla (pw L) (pw H) L H r
    have ep := rd_pla (pw L) (pw H) L H r c
    rw [ep.1, ep.2, decide_eq_false c] at this
    rw [this]; rfl
theorem bv_two (P Q : Nat) (hP : P < 18446744073709551616) (hQ : Q < 18446744073709551616) (zs : List Int) : bv ((by8 P ++ by8 Q ++ zs).take 8) = P ∧ bv (((by8 P ++ by8 Q ++ zs).drop 8).take 8) = Q := by
  have l1 := by8_len P
  have l2 := by8_len Q
  constructor
  · rw [List.append_assoc, List.take_left' l1]
    exact bv_by8 P hP
  · rw [List.append_assoc, List.drop_left' l1, List.take_left' l2]
    exact bv_by8 Q hQ
theorem fm_back (a b : Nat) (ha : a < 18446744073709551616) (hb : b < 18446744073709551616) : gOk (fm (a, b)) = true ∧ gX (fm (a, b)) = Fq.rlo a b ∧ gY (fm (a, b)) = Fq.rhi a b := by
  obtain ⟨L, H, r⟩ := Rd.ex a b ha hb
  have b1 : Fq.rlo a b < 18446744073709551616 := by rw [r.2.2.2.1]; exact pw_lt L r.vd.lo
  have b2 : Fq.rhi a b < 18446744073709551616 := by rw [r.2.2.2.2]; exact pw_lt H r.vd.hi
  have ef : fm (a, b) = by8 (Fq.rlo a b) ++ by8 (Fq.rhi a b) := rfl
  have t1 : (fm (a, b)).take 8 = by8 (Fq.rlo a b) := by rw [ef]; exact List.take_left' (by8_len _)
  have t2 : (fm (a, b)).drop 8 = by8 (Fq.rhi a b) := by rw [ef]; exact List.drop_left' (by8_len _)
  have hok : gOk (fm (a, b)) = true := by
    unfold gOk
    rw [decide_eq_true (fm_len (a, b)), Bool.true_and, t1, t2, bv_by8 _ b1, bv_by8 _ b2, r.2.2.2.1, r.2.2.2.2]
    exact vld_pw L H r.vd
  refine ⟨hok, ?_, ?_⟩
  · unfold gX; rw [if_pos hok, t1]; exact bv_by8 _ b1
  · unfold gY; rw [if_pos hok, t2]; exact bv_by8 _ b2
theorem fm_wb (q : Nat × Nat) : Wb (fm q) := (by8_wb _).append (by8_wb _)
theorem fms_wb : ∀ ps, Wb (fms ps)
  | [] => Wb.nil
  | q :: r => (fm_wb q).append (fms_wb r)
theorem bb_wb (ps : List (Nat × Nat)) (h : ps.length ≤ 32) : Wb (bb ps) := Wb.mk (by omega) (fms_wb ps)
theorem bb_bN (ps : List (Nat × Nat)) : bN (bb ps) = ps.length := rfl
theorem fms_pt : ∀ (ps : List (Nat × Nat)) (k : Nat), k < ps.length → ((fms ps).drop (16 * k)).take 16 = fm (ps.getD k (0, 0))
  | [], k, h => by simp at h
  | q :: r, 0, _ => by
    simp only [fms, Nat.mul_zero, List.drop_zero, List.getD_cons_zero]
    exact List.take_left' (fm_len q)
  | q :: r, k + 1, h => by
    have ih := fms_pt r k (by simpa using h)
    rw [List.getD_cons_succ, ← ih]
    simp only [fms]
    rw [show 16 * (k + 1) = 16 + 16 * k from by omega, ← List.drop_drop, List.drop_left' (fm_len q)]
theorem bb_pt (ps : List (Nat × Nat)) (k : Nat) (h : k < ps.length) : pt (bb ps) k = fm (ps.getD k (0, 0)) := by
  rw [← fms_pt ps k h]
  unfold pt bb
  rw [show 1 + 16 * k = 16 * k + 1 from by omega, List.drop_succ_cons]
theorem getD_pair (ps : List (Nat × Nat)) (k : Nat) : ps.getD k (0, 0) = ((ps.getD k (0, 0)).1, (ps.getD k (0, 0)).2) := rfl
/-- a box as it is read -/
def rdb (ps : List (Nat × Nat)) : List (Nat × Nat) := ps.map (fun q => (Fq.rlo q.1 q.2, Fq.rhi q.1 q.2))
theorem rdb_len (ps : List (Nat × Nat)) : (rdb ps).length = ps.length := by simp [rdb]
theorem rdb_get (ps : List (Nat × Nat)) (k : Nat) (h : k < ps.length) : (rdb ps).getD k (0, 0) = (Fq.rlo (ps.getD k (0, 0)).1 (ps.getD k (0, 0)).2, Fq.rhi (ps.getD k (0, 0)).1 (ps.getD k (0, 0)).2) := by
  simp [rdb, List.getD, h]
theorem bb_back (ps : List (Nat × Nat)) (hq : Wq ps) (h : ps.length ≤ 32) : bOk (bb ps) = true ∧ bL (bb ps) = rdb ps := by
  have hall : bAll (bb ps) ps.length = true := by
    unfold bAll
    rw [List.all_eq_true]
    intro k hk
    have hk := List.mem_range.1 hk
    rw [bb_pt ps k hk, getD_pair]
    exact (fm_back _ _ (hq k).1 (hq k).2).1
  have hok : bOk (bb ps) = true := by
    unfold bOk bHd
    rw [bb_bN, hall, decide_eq_true (by rw [bb_len]; omega : 0 < (bb ps).length), decide_eq_true h, decide_eq_true (bb_len ps)]; rfl
  refine ⟨hok, ?_⟩
  unfold bL
  rw [hok, if_pos rfl, bb_bN]
  apply List.ext_getElem?
  intro k
  by_cases hk : k < ps.length
  · have e1 := bP_get (bb ps) ps.length k hk
    have e2 := rdb_get ps k hk
    have f := fm_back _ _ (hq k).1 (hq k).2
    rw [bb_pt ps k hk, getD_pair ps k, f.2.1, f.2.2] at e1
    rw [List.getD, List.getElem?_eq_getElem (by rw [bP_len]; exact hk)] at e1
    rw [List.getD, List.getElem?_eq_getElem (by rw [rdb_len]; exact hk)] at e2
    rw [List.getElem?_eq_getElem (by rw [bP_len]; exact hk), List.getElem?_eq_getElem (by rw [rdb_len]; exact hk)]
    simp only [Option.getD_some] at e1 e2
    rw [e1, e2]
  · rw [List.getElem?_eq_none (by rw [bP_len]; omega), List.getElem?_eq_none (by rw [rdb_len]; omega)]
theorem dN_idem (L H D : Int) : dN L H (dN L H D) = dN L H D := by
  unfold dN
  generalize (!decide (L = 9218868437227405312)) = b1
  generalize (!decide (L = 9218868437227405312 ∨ L = -9218868437227405312) && !decide (H = 9218868437227405312 ∨ H = -9218868437227405312)) = b3
  unfold fallN
  by_cases c16 : D = 16
  · subst c16; cases b1 <;> cases b3 <;> simp
  by_cases c12 : D = 12
  · subst c12; cases b1 <;> cases b3 <;> simp
  by_cases c8 : D = 8
  · subst c8; cases b1 <;> cases b3 <;> simp
  by_cases c4 : D = 4
  · subst c4; cases b1 <;> cases b3 <;> simp
  simp [c16, c12, c8, c4]
theorem vdD_dread (a b : Nat) (L H D : Int) (r : Rd a b L H) : vdD (dL a b L (dN L H D)) (dH a b L H (dN L H D)) (dR a b L (dN L H D)) = true := by
  by_cases c : dN L H D = 0 ∨ (L = 9218868437227405312 ∧ ¬ (a = 9218868437227405312 ∧ b = 18442240474082181120))
  · unfold dL dH dR
    rw [if_pos c, if_pos c, if_pos c]
    decide +kernel
  · have e1 : dL a b L (dN L H D) = pw L := by unfold dL; rw [if_neg c]
    have e2 : dH a b L H (dN L H D) = pw H := by unfold dH; rw [if_neg c]
    have e3 : dR a b L (dN L H D) = dN L H D := by unfold dR; rw [if_neg c]
    rw [e1, e2, e3, vdD_read L H (dN L H D) r.vd, dN_idem]
    have c2 : ¬ (dN L H D = 0 ∨ (L = 9218868437227405312 ∧ ¬ (pw L = 9218868437227405312 ∧ pw H = 18442240474082181120))) := by
      rintro (h | ⟨h, h'⟩)
      · exact c (Or.inl h)
      · have eH : H = -9218868437227405312 := by have := r.vd; unfold VdZ at this; omega
        exact h' ⟨by rw [h]; exact pw_I, by rw [eH]; exact pw_MI⟩
    unfold dL dH dR
    rw [if_neg c2, if_neg c2, if_neg c2]
    simp
theorem gd_two (P Q : Nat) (R : Int) (hP : P < 18446744073709551616) (hQ : Q < 18446744073709551616) (hv : vdD P Q R = true) : gdX (by8 P ++ by8 Q ++ [R]) = P ∧ gdY (by8 P ++ by8 Q ++ [R]) = Q ∧ gdD (by8 P ++ by8 Q ++ [R]) = R ∧ gdE (by8 P ++ by8 Q ++ [R]) = 0 := by
  have t := bv_two P Q hP hQ [R]
  have l16 : (by8 P ++ by8 Q).length = 16 := by rw [List.length_append, by8_len, by8_len]
  have e : (by8 P ++ by8 Q ++ [R]).getD 16 0 = R := by
    rw [List.getD, List.getElem?_append_right (by omega), l16]; rfl
  have hok : gdOk (by8 P ++ by8 Q ++ [R]) = true := by
    unfold gdOk
    rw [t.1, t.2, e, hv, decide_eq_true (by rw [List.length_append, l16]; rfl)]; rfl
  unfold gdX gdY gdD gdE
  rw [hok]
  exact ⟨t.1, t.2, e, rfl⟩
end B8
end Go.Proofs.Ytbcjhmdkpkmieab
namespace Go.Proofs.Ytbcjhmdkpkmieab
open Go.RowKit
open Go
namespace B8
set_option maxRecDepth 20000 in
set_option maxHeartbeats 1000000 in
theorem inbox_ (p : Option Addr) (c : Nat) (ps : List (Nat × Nat)) (w : World) (hx : AG ULV w p ps) (lx : ps.length ≤ 1048576) :
    Calls Try.prog 20 #[.slice p ps.length c] w fun e w' => ∃ v, e = .returned v ∧ OG FLV 31 w' w.heap.size v ps ∧ Kp w w' := by
  obtain ⟨N, hN⟩ : ∃ N, N = ps.length := ⟨_, rfl⟩
  rw [← hN] at lx ⊢
  have HX : Hid (AG ULV w p ps) := hx
  have HN : Hid (N = ps.length) := hN
  obtain ⟨i0, hi0, hi1, hi2, hi3⟩ := infF
  clear hN hx
  go_enter Try.func20, Try.ntmps20
  go_wp2
  go_loopw [3, 4] (fun a i wr => ∃ (v : Value) (j : Nat), v = a ∧ j ≤ N ∧ i = .int .i64 j ∧ OG FLV 31 wr w.heap.size v (ps.take j) ∧ Kp w wr) (fun _ i _ => N - (intOf i).toNat)
  case atStart => exact ⟨_, 0, rfl, Nat.zero_le _, rfl, by simpa using OG.nil FLV 31 w w.heap.size, Kp.refl _⟩
  case round =>
    obtain ⟨v, j, rfl, hj, rfl, hown, hkp⟩ := hrel
    have hN := HN.out
    by_cases cj : j < N
    · obtain ⟨b, off, rfl, hc2⟩ := HX.out.at (k := j) (by omega)
      have e1 : wr.cell? ⟨b, off + j * 2, none⟩ = some (.int .u64 (((ps.getD j (0, 0)).1 : Nat) : Int)) := kkeep hkp (hc2 j (by omega)).1
      have e2 : wr.cell? ⟨b, off + j * 2 + 1, none⟩ = some (.int .u64 (((ps.getD j (0, 0)).2 : Nat) : Int)) := kkeep hkp (hc2 j (by omega)).2
      have hpush := take_push2 ps j (by omega)
      have hlen : (ps.take j).length = j := by rw [List.length_take]; omega
      have hin := in9_ (ps.getD j (0, 0)).1 (ps.getD j (0, 0)).2
      obtain ⟨Y1, hY1⟩ : ∃ Y, Y = (ps.getD j (0, 0)).1 := ⟨_, rfl⟩
      obtain ⟨Y2, hY2⟩ : ∃ Y, Y = (ps.getD j (0, 0)).2 := ⟨_, rfl⟩
      rw [← hY1] at e1 hpush hin
      rw [← hY2] at e2 hpush hin
      have HP : Hid (ps.take j ++ [(Y1, Y2)] = ps.take (j + 1)) := hpush
      generalize (Y1 : Int) = Z1 at e1 hin
      generalize (Y2 : Int) = Z2 at e2 hin
      clear hc2 hY1 hY2 HX HN hpush
      clear hN
      go_wp2_with (first | (go_at_call 11; refine (hin _).mono ?_; rintro e w1 ⟨rfl, g1⟩; have hk1 := Kp.trans hkp g1; have hown1 := hown.kp g1; have hob := og_block hown1; have hsz := hk1.size; have hown' : w1.ownsRow w.heap.size 31 2 v ((ps.take j).length) (flat FLV (ps.take j)) := hown1) | (at_builtin; refine wpList_append_own _ rfl _ _ 50 rfl w.heap.size 31 i0 (.agg #[.float .f64 0, .float .f64 0]) 2 16 Try.underlying50 hi0 hi1 hi2 hi3 rfl (by decide) _ _ _ rfl (hown'.alloc _) ⟨w1.heap.size, 0, none⟩ 1 1 [.float .f64 Y1, .float .f64 Y2] rfl rfl ?c1 ?c2 ?c3 ?c4 ?c5 ?_))
      case c1 =>
        intro j' u hj'
        match j', hj' with
        | 0, hj' => simp at hj'; subst hj'; simp [Addr.add]
        | 1, hj' => simp at hj'; subst hj'; simp [Addr.add]
      case c2 => intro u hu; simp at hu; rcases hu with rfl | rfl <;> rfl
      case c3 => unfold maxLen; omega
      case c4 => omega
      case c5 => simp; omega
      intro v' w2 hown2 hgrow _
      have hO : OG FLV 31 w2 w.heap.size v' (ps.take (j + 1)) := by
        rw [← HP.out]
        refine OG.push ?_
        rw [hlen]
        exact hown2
      have hK2 : Kp w w2 := (hk1.alloc _).grown hgrow hob
      clear hown2 hgrow hown' hkp hob e1 e2 hsz HP hlen hk1 hown1 hown g1
      go_wp2
      exact ⟨⟨_, j + 1, rfl, by omega, by go_num, hO, hK2⟩, by simp [intOf]; omega⟩
    · have hjk : j = N := by omega
      rw [List.take_of_length_le (by omega)] at hown
      clear hN HN HX
      go_wp2
      exact bodyPost_ret (v := v) (by simp [results, Try.results20, go_sem] <;> simp only [*]) rfl ⟨_, rfl, hown, hkp⟩
end B8
end Go.Proofs.Ytbcjhmdkpkmieab
namespace Go.Proofs.Ytbcjhmdkpkmieab
open Go.RowKit
open Go
namespace B8
set_option linter.unusedVariables false
set_option maxRecDepth 20000 in
set_option maxHeartbeats 4000000 in
theorem backN_ (p : Option Addr) (c N : Nat) (ps : List (Nat × Nat)) (hPL : ps.length = N) (hq : Wq ps) (lx : N ≤ 1048576) (X1 X2 D R : Int) (a b P Q : Nat) (PI_ QI : Int) (ys : List Int) (hys : ys.length = 17) (w : World) (hx : AG ULV w p ps)
    (HDI : ∀ W : World, Calls Try.prog 16 #[.agg #[.int .u64 X1, .int .u64 X2, .int .i64 D]] W fun e w' => e = .returned (.agg #[.float .f64 a, .float .f64 b, .int .i64 D]) ∧ Kp W w')
    (HPD : ∀ W : World, Calls Try.prog 15 #[.agg #[.float .f64 a, .float .f64 b, .int .i64 D]] W fun e w' => ∃ g, e = .returned (.slice (some ⟨g, 0, none⟩) 17 17) ∧ W.heap.size ≤ g ∧ Rw w' g 17 ys ∧ Kp W w')
    (HGD : ∀ (g : Nat) (W : World), Arr W (some ⟨g, 0, none⟩) ys → Calls Try.prog 14 #[.slice (some ⟨g, 0, none⟩) 17 17] W fun e w' => e = .returned (.tuple #[.agg #[.float .f64 P, .float .f64 Q, .int .i64 R], .int .i64 0]) ∧ Kp W w')
    (HOD : ∀ W : World, Calls Try.prog 17 #[.agg #[.float .f64 P, .float .f64 Q, .int .i64 R]] W fun e w' => e = .returned (.agg #[.int .u64 PI_, .int .u64 QI, .int .i64 R]) ∧ Kp W w')
    (HRD : ∀ W : World, Calls Try.prog 18 #[.agg #[.int .u64 X1, .int .u64 X2, .int .i64 D]] W fun e w' => e = .returned (.agg #[.int .u64 PI_, .int .u64 QI, .int .i64 R]) ∧ Kp W w')
    (HIB : ∀ W : World, Kp w W → Calls Try.prog 20 #[.slice p N c] W fun e w' => ∃ v, e = .returned v ∧ OG FLV 31 w' W.heap.size v ps ∧ Kp W w') (hN32 : 32 < N)
    (HPB : ∀ (q : Option Addr) (d : Nat) (W : World), Calls Try.prog 19 #[.slice q N d] W fun e w' => e = .returned (.tuple #[.slice none 0 0, .int .i64 2]) ∧ Kp W w') : Calls Try.prog 3 #[.slice p N c, .agg #[.int .u64 X1, .int .u64 X2, .int .i64 D]] w fun e w' => e = .returned (.bool true) ∧ Kp w w' := by
  have n32 : (32 : Int) < (N : Int) := by omega
  have HX : Hid (ps.length = N ∧ AG ULV w p ps ∧ Wq ps) := ⟨hPL, hx, hq⟩
  clear hPL hx hq
  go_enter Try.func3, Try.ntmps3
  go_wp2_with (first | (go_at_call 8; refine (awake_ _).mono ?_; rintro e wa ⟨rfl, ga⟩))
  have s0 := H3c.keep (H3c.new w (.int .u64 X1) (.int .u64 X2) (.int .i64 D) 27) ga
  have k0 : Kp w wa := Kp.trans ((Kp.refl w).alloc _) ga
  generalize w.heap.size = B at s0 ⊢
  clear ga
  go_loopw [5] (fun i wr => ∃ k : Nat, k ≤ N ∧ i = .int .i64 k ∧ H3c wr B (.int .u64 X1) (.int .u64 X2) (.int .i64 D) ∧ Kp w wr) (fun i _ => N - (intOf i).toNat)
  case atStart => exact ⟨0, Nat.zero_le _, rfl, s0, k0⟩
  case round =>
    obtain ⟨k, hk, rfl, sB, hg⟩ := hrel
    clear s0 k0
    obtain ⟨hN, hx, hq⟩ := HX.out
    by_cases ck : k < N
    · obtain ⟨bb_, off, rfl, hc⟩ := hx.at (k := k) (by omega)
      have e1 : wr.cell? ⟨bb_, off + k * 2, none⟩ = some (.int .u64 (((ps.getD k (0, 0)).1 : Nat) : Int)) := kkeep hg (hc k (by omega)).1
      have e2 : wr.cell? ⟨bb_, off + k * 2 + 1, none⟩ = some (.int .u64 (((ps.getD k (0, 0)).2 : Nat) : Int)) := kkeep hg (hc k (by omega)).2
      have hin := in9_ (ps.getD k (0, 0)).1 (ps.getD k (0, 0)).2
      have hput := putn_ (ps.getD k (0, 0)).1 (ps.getD k (0, 0)).2 (hq k).1 (hq k).2
      have hget : ∀ (g : Nat) (W : World), Arr W (some ⟨g, 0, none⟩) (fm ((ps.getD k (0, 0)).1, (ps.getD k (0, 0)).2)) → Calls Try.prog 9 #[.slice (some ⟨g, 0, none⟩) 16 16] W fun e w' => e = .returned (.tuple #[.agg #[.float .f64 (Fq.rlo (ps.getD k (0, 0)).1 (ps.getD k (0, 0)).2), .float .f64 (Fq.rhi (ps.getD k (0, 0)).1 (ps.getD k (0, 0)).2)], .int .i64 0]) ∧ Kp W w' := by
        intro g W ha
        have f := fm_back (ps.getD k (0, 0)).1 (ps.getD k (0, 0)).2 (hq k).1 (hq k).2
        have := get_ (some ⟨g, 0, none⟩) 16 16 (fm ((ps.getD k (0, 0)).1, (ps.getD k (0, 0)).2)) W ha (fm_len _) (fm_wb _) (Nat.le_refl _)
        unfold gE at this
        rw [f.1, f.2.1, f.2.2] at this
        exact this
      have hF := fm_len ((ps.getD k (0, 0)).1, (ps.getD k (0, 0)).2)
      have ho := out9_ (Fq.rlo (ps.getD k (0, 0)).1 (ps.getD k (0, 0)).2) (Fq.rhi (ps.getD k (0, 0)).1 (ps.getD k (0, 0)).2)
      have hr : ∀ w : World, Calls Try.prog 13 #[.agg #[.int .u64 (((ps.getD k (0, 0)).1 : Nat) : Int), .int .u64 (((ps.getD k (0, 0)).2 : Nat) : Int)]] w fun e w' => e = .returned (.agg #[.int .u64 ((Fq.rlo (ps.getD k (0, 0)).1 (ps.getD k (0, 0)).2 : Nat) : Int), .int .u64 ((Fq.rhi (ps.getD k (0, 0)).1 (ps.getD k (0, 0)).2 : Nat) : Int)]) ∧ Kp w w' := by
        obtain ⟨L, H, r⟩ := Rd.ex (ps.getD k (0, 0)).1 (ps.getD k (0, 0)).2 (hq k).1 (hq k).2
        have := rread9_ (ps.getD k (0, 0)).1 (ps.getD k (0, 0)).2 L H r
        unfold pI at this
        rw [← r.2.2.2.1, ← r.2.2.2.2] at this
        exact this
      generalize fm ((ps.getD k (0, 0)).1, (ps.getD k (0, 0)).2) = F9 at hput hget hF
      generalize Fq.rlo (ps.getD k (0, 0)).1 (ps.getD k (0, 0)).2 = R1 at hget ho hr
      generalize Fq.rhi (ps.getD k (0, 0)).1 (ps.getD k (0, 0)).2 = R2 at hget ho hr
      generalize (ps.getD k (0, 0)).1 = Y1 at e1 hin hput hr
      generalize (ps.getD k (0, 0)).2 = Y2 at e2 hin hput hr
      generalize (Y1 : Int) = Z1 at e1 hin hr
      generalize (Y2 : Int) = Z2 at e2 hin hr
      generalize (R1 : Int) = S1 at ho hr
      generalize (R2 : Int) = S2 at ho hr
      clear hc HX hN hx hq HDI HPD HGD HOD HRD HIB HPB n32
      go_upto_region 7 with (first | (go_at_call 11; refine (hin _).mono ?_; rintro e w1 ⟨rfl, g1⟩) | (go_at_call 10; refine (hput _).mono ?_; rintro e w2 ⟨gp, rfl, hgp, hR2, g2⟩) | (go_at_call 9; refine (hget gp _ (arr_all hR2 hF)).mono ?_; rintro e w4 ⟨rfl, g4⟩))
      have kk : Kp wr w4 := Kp.trans (Kp.trans g1 g2) g4
      have s6 := Fq.H2.new w4 (.float .f64 R1) (.float .f64 R2) 31
      replace kk := kk.alloc (.cells #[.float .f64 R1, .float .f64 R2] 31)
      generalize w4.alloc (.cells #[.float .f64 R1, .float .f64 R2] 31) = W at s6 kk ⊢
      generalize w4.heap.size = B6 at s6 ⊢
      obtain ⟨x0, x1, x2, x3⟩ := id s6
      have y0 := kkeep kk e1
      have y1 := kkeep kk e2
      clear g1 g2 g4 hR2 hput hget hin e1 e2
      refine Fq.wp_region_grow (by kernel_rfl) (by kernel_rfl) (fun ι _ G hG hall => ?_)
      have cc0 : ∀ n, (G n).cell? ⟨B6, 0, none⟩ = some (.float .f64 R1) := fun n => Fq.gkeep (hG n) x0
      have cc1 : ∀ n, (G n).cell? ⟨B6, 1, none⟩ = some (.float .f64 R2) := fun n => Fq.gkeep (hG n) x1
      have cc2 : ∀ n, (G n).cell? ⟨bb_, off + k * 2, none⟩ = some (.int .u64 Z1) := fun n => Fq.gkeep (hG n) y0
      have cc3 : ∀ n, (G n).cell? ⟨bb_, off + k * 2 + 1, none⟩ = some (.int .u64 Z2) := fun n => Fq.gkeep (hG n) y1
      repeat (go_big_quiet_step (first | (go_at_call 12; exact (ho _).mono (fun e w' h => ⟨h.1, hall _ (Fq.gtrans (hG _) h.2)⟩)) | (go_at_call 13; exact (hr _).mono (fun e w' h => ⟨h.1, hall _ (Fq.gtrans (hG _) h.2)⟩))))
      refine wpQuiet_nil ?_
      rintro _ ⟨nq, rfl⟩
      have gq : Kp W (G nq) := hG nq
      clear cc0 cc1 cc2 cc3 hall hG
      have kq := Kp.trans kk gq
      have sB2 := H3c.keep sB kq
      have hg2 := Kp.trans hg kq
      clear x0 x1 x2 x3 y0 y1 s6 sB kk kq
      go_wp2
      exact ⟨⟨k + 1, by omega, by go_num, sB2, hg2⟩, by simp [intOf]; omega⟩
    · clear hk hN hx hq
      obtain ⟨x0, x1, x2, x3, x4, x5⟩ := id sB
      go_upto_region 10 with (first | (go_at_call 16; refine (HDI _).mono ?_; rintro e w1 ⟨rfl, g1⟩) | (go_at_call 15; refine (HPD _).mono ?_; rintro e w2 ⟨gp, rfl, hgp, hR2, g2⟩) | (go_at_call 14; refine (HGD gp _ (arr_all hR2 hys)).mono ?_; rintro e w4 ⟨rfl, g4⟩))
      have kk : Kp wr w4 := Kp.trans (Kp.trans g1 g2) g4
      have s8 := H3c.new w4 (.float .f64 P) (.float .f64 Q) (.int .i64 R) 41
      replace kk := kk.alloc (.cells #[.float .f64 P, .float .f64 Q, .int .i64 R] 41)
      replace sB := H3c.keep sB kk
      replace hg := Kp.trans hg kk
      generalize w4.alloc (.cells #[.float .f64 P, .float .f64 Q, .int .i64 R] 41) = W at s8 sB hg ⊢
      generalize w4.heap.size = B8_ at s8 ⊢
      clear x0 x1 x2 x3 x4 x5 g1 g2 g4 kk hR2
      obtain ⟨x0, x1, x2, x3, x4, x5⟩ := id sB
      obtain ⟨y0, y1, y2, y3, y4, y5⟩ := id s8
      refine Fq.wp_region_grow (by kernel_rfl) (by kernel_rfl) (fun ι _ G hG hall => ?_)
      have cc0 : ∀ n, (G n).cell? ⟨B8_, 0, none⟩ = some (.float .f64 P) := fun n => Fq.gkeep (hG n) y0
      have cc1 : ∀ n, (G n).cell? ⟨B8_, 1, none⟩ = some (.float .f64 Q) := fun n => Fq.gkeep (hG n) y1
      have cc2 : ∀ n, (G n).cell? ⟨B8_, 2, none⟩ = some (.int .i64 R) := fun n => Fq.gkeep (hG n) y2
      have cc3 : ∀ n, (G n).cell? ⟨B, 0, none⟩ = some (.int .u64 X1) := fun n => Fq.gkeep (hG n) x0
      have cc4 : ∀ n, (G n).cell? ⟨B, 1, none⟩ = some (.int .u64 X2) := fun n => Fq.gkeep (hG n) x1
      have cc5 : ∀ n, (G n).cell? ⟨B, 2, none⟩ = some (.int .i64 D) := fun n => Fq.gkeep (hG n) x2
      repeat (go_big_quiet_step (first | (go_at_call 17; exact (HOD _).mono (fun e w' h => ⟨h.1, hall _ (Fq.gtrans (hG _) h.2)⟩)) | (go_at_call 18; exact (HRD _).mono (fun e w' h => ⟨h.1, hall _ (Fq.gtrans (hG _) h.2)⟩))))
      refine wpQuiet_nil ?_
      rintro _ ⟨nq, rfl⟩
      have gq : Kp W (G nq) := hG nq
      clear cc0 cc1 cc2 cc3 cc4 cc5 hall hG
      replace hg := Kp.trans hg gq
      clear x0 x1 x2 x3 x4 x5 y0 y1 y2 y3 y4 y5 s8 sB HDI HPD HGD HOD HRD
      have hpl := HX.out.1
      go_wp2_with (first | (go_at_call 20; refine (HIB _ hg).mono ?_; rintro e w5 ⟨v5, rfl, o5, g5⟩; obtain ⟨p5, c5, rfl, a5, -⟩ := o5.arr; rw [hpl]) | (go_at_call 19; refine (HPB _ _ _).mono ?_; rintro e w6 ⟨rfl, g6⟩; have kf := Kp.trans (Kp.trans hg g5) g6))
      exact bodyPost_ret (v := .bool true) (by simp [results, Try.results3, go_sem]) rfl ⟨rfl, kf⟩
end B8
end Go.Proofs.Ytbcjhmdkpkmieab
namespace Go.Proofs.Ytbcjhmdkpkmieab
open Go.RowKit
open Go
namespace B8
set_option linter.unusedVariables false
set_option maxRecDepth 20000 in
set_option maxHeartbeats 4000000 in
theorem backY_ (p : Option Addr) (c N : Nat) (ps : List (Nat × Nat)) (hPL : ps.length = N) (hq : Wq ps) (lx : N ≤ 1048576) (X1 X2 D R : Int) (a b P Q : Nat) (PI_ QI : Int) (ys : List Int) (hys : ys.length = 17) (w : World) (hx : AG ULV w p ps)
    (HDI : ∀ W : World, Calls Try.prog 16 #[.agg #[.int .u64 X1, .int .u64 X2, .int .i64 D]] W fun e w' => e = .returned (.agg #[.float .f64 a, .float .f64 b, .int .i64 D]) ∧ Kp W w')
    (HPD : ∀ W : World, Calls Try.prog 15 #[.agg #[.float .f64 a, .float .f64 b, .int .i64 D]] W fun e w' => ∃ g, e = .returned (.slice (some ⟨g, 0, none⟩) 17 17) ∧ W.heap.size ≤ g ∧ Rw w' g 17 ys ∧ Kp W w')
    (HGD : ∀ (g : Nat) (W : World), Arr W (some ⟨g, 0, none⟩) ys → Calls Try.prog 14 #[.slice (some ⟨g, 0, none⟩) 17 17] W fun e w' => e = .returned (.tuple #[.agg #[.float .f64 P, .float .f64 Q, .int .i64 R], .int .i64 0]) ∧ Kp W w')
    (HOD : ∀ W : World, Calls Try.prog 17 #[.agg #[.float .f64 P, .float .f64 Q, .int .i64 R]] W fun e w' => e = .returned (.agg #[.int .u64 PI_, .int .u64 QI, .int .i64 R]) ∧ Kp W w')
    (HRD : ∀ W : World, Calls Try.prog 18 #[.agg #[.int .u64 X1, .int .u64 X2, .int .i64 D]] W fun e w' => e = .returned (.agg #[.int .u64 PI_, .int .u64 QI, .int .i64 R]) ∧ Kp W w')
    (HIB : ∀ W : World, Kp w W → Calls Try.prog 20 #[.slice p N c] W fun e w' => ∃ v, e = .returned v ∧ OG FLV 31 w' W.heap.size v ps ∧ Kp W w') (hN32 : N ≤ 32) (M : Nat) (zs : List Int) (hzs : zs.length = M)
    (HPB : ∀ (q : Option Addr) (d : Nat) (W : World), AG FLV W q ps → Calls Try.prog 19 #[.slice q N d] W fun e w' => ∃ g, e = .returned (.tuple #[.slice (some ⟨g, 0, none⟩) M M, .int .i64 0]) ∧ W.heap.size ≤ g ∧ Rw w' g M zs ∧ Kp W w')
    (HGB : ∀ (g : Nat) (W : World), Arr W (some ⟨g, 0, none⟩) zs → Calls Try.prog 21 #[.slice (some ⟨g, 0, none⟩) M M] W fun e w' => ∃ p' d', e = .returned (.tuple #[.slice p' N d', .int .i64 0]) ∧ AG FLV w' p' (rdb ps) ∧ Kp W w') : Calls Try.prog 3 #[.slice p N c, .agg #[.int .u64 X1, .int .u64 X2, .int .i64 D]] w fun e w' => e = .returned (.bool true) ∧ Kp w w' := by
  have n32 : ¬ (32 : Int) < (N : Int) := by omega
  have HX : Hid (ps.length = N ∧ AG ULV w p ps ∧ Wq ps) := ⟨hPL, hx, hq⟩
  clear hPL hx hq
  go_enter Try.func3, Try.ntmps3
  go_wp2_with (first | (go_at_call 8; refine (awake_ _).mono ?_; rintro e wa ⟨rfl, ga⟩))
  have s0 := H3c.keep (H3c.new w (.int .u64 X1) (.int .u64 X2) (.int .i64 D) 27) ga
  have k0 : Kp w wa := Kp.trans ((Kp.refl w).alloc _) ga
  generalize w.heap.size = B at s0 ⊢
  clear ga
  go_loopw [5] (fun i wr => ∃ k : Nat, k ≤ N ∧ i = .int .i64 k ∧ H3c wr B (.int .u64 X1) (.int .u64 X2) (.int .i64 D) ∧ Kp w wr) (fun i _ => N - (intOf i).toNat)
  case atStart => exact ⟨0, Nat.zero_le _, rfl, s0, k0⟩
  case round =>
    obtain ⟨k, hk, rfl, sB, hg⟩ := hrel
    clear s0 k0
    obtain ⟨hN, hx, hq⟩ := HX.out
    by_cases ck : k < N
    · obtain ⟨bb_, off, rfl, hc⟩ := hx.at (k := k) (by omega)
      have e1 : wr.cell? ⟨bb_, off + k * 2, none⟩ = some (.int .u64 (((ps.getD k (0, 0)).1 : Nat) : Int)) := kkeep hg (hc k (by omega)).1
      have e2 : wr.cell? ⟨bb_, off + k * 2 + 1, none⟩ = some (.int .u64 (((ps.getD k (0, 0)).2 : Nat) : Int)) := kkeep hg (hc k (by omega)).2
      have hin := in9_ (ps.getD k (0, 0)).1 (ps.getD k (0, 0)).2
      have hput := putn_ (ps.getD k (0, 0)).1 (ps.getD k (0, 0)).2 (hq k).1 (hq k).2
      have hget : ∀ (g : Nat) (W : World), Arr W (some ⟨g, 0, none⟩) (fm ((ps.getD k (0, 0)).1, (ps.getD k (0, 0)).2)) → Calls Try.prog 9 #[.slice (some ⟨g, 0, none⟩) 16 16] W fun e w' => e = .returned (.tuple #[.agg #[.float .f64 (Fq.rlo (ps.getD k (0, 0)).1 (ps.getD k (0, 0)).2), .float .f64 (Fq.rhi (ps.getD k (0, 0)).1 (ps.getD k (0, 0)).2)], .int .i64 0]) ∧ Kp W w' := by
        intro g W ha
        have f := fm_back (ps.getD k (0, 0)).1 (ps.getD k (0, 0)).2 (hq k).1 (hq k).2
        have := get_ (some ⟨g, 0, none⟩) 16 16 (fm ((ps.getD k (0, 0)).1, (ps.getD k (0, 0)).2)) W ha (fm_len _) (fm_wb _) (Nat.le_refl _)
        unfold gE at this
        rw [f.1, f.2.1, f.2.2] at this
        exact this
      have hF := fm_len ((ps.getD k (0, 0)).1, (ps.getD k (0, 0)).2)
      have ho := out9_ (Fq.rlo (ps.getD k (0, 0)).1 (ps.getD k (0, 0)).2) (Fq.rhi (ps.getD k (0, 0)).1 (ps.getD k (0, 0)).2)
      have hr : ∀ w : World, Calls Try.prog 13 #[.agg #[.int .u64 (((ps.getD k (0, 0)).1 : Nat) : Int), .int .u64 (((ps.getD k (0, 0)).2 : Nat) : Int)]] w fun e w' => e = .returned (.agg #[.int .u64 ((Fq.rlo (ps.getD k (0, 0)).1 (ps.getD k (0, 0)).2 : Nat) : Int), .int .u64 ((Fq.rhi (ps.getD k (0, 0)).1 (ps.getD k (0, 0)).2 : Nat) : Int)]) ∧ Kp w w' := by
        obtain ⟨L, H, r⟩ := Rd.ex (ps.getD k (0, 0)).1 (ps.getD k (0, 0)).2 (hq k).1 (hq k).2
        have := rread9_ (ps.getD k (0, 0)).1 (ps.getD k (0, 0)).2 L H r
        unfold pI at this
        rw [← r.2.2.2.1, ← r.2.2.2.2] at this
        exact this
      generalize fm ((ps.getD k (0, 0)).1, (ps.getD k (0, 0)).2) = F9 at hput hget hF
      generalize Fq.rlo (ps.getD k (0, 0)).1 (ps.getD k (0, 0)).2 = R1 at hget ho hr
      generalize Fq.rhi (ps.getD k (0, 0)).1 (ps.getD k (0, 0)).2 = R2 at hget ho hr
      generalize (ps.getD k (0, 0)).1 = Y1 at e1 hin hput hr
      generalize (ps.getD k (0, 0)).2 = Y2 at e2 hin hput hr
      generalize (Y1 : Int) = Z1 at e1 hin hr
      generalize (Y2 : Int) = Z2 at e2 hin hr
      generalize (R1 : Int) = S1 at ho hr
      generalize (R2 : Int) = S2 at ho hr
      clear hc HX hN hx hq HDI HPD HGD HOD HRD HIB HPB HGB n32
      go_upto_region 7 with (first | (go_at_call 11; refine (hin _).mono ?_; rintro e w1 ⟨rfl, g1⟩) | (go_at_call 10; refine (hput _).mono ?_; rintro e w2 ⟨gp, rfl, hgp, hR2, g2⟩) | (go_at_call 9; refine (hget gp _ (arr_all hR2 hF)).mono ?_; rintro e w4 ⟨rfl, g4⟩))
      have kk : Kp wr w4 := Kp.trans (Kp.trans g1 g2) g4
      have s6 := Fq.H2.new w4 (.float .f64 R1) (.float .f64 R2) 31
      replace kk := kk.alloc (.cells #[.float .f64 R1, .float .f64 R2] 31)
      generalize w4.alloc (.cells #[.float .f64 R1, .float .f64 R2] 31) = W at s6 kk ⊢
      generalize w4.heap.size = B6 at s6 ⊢
      obtain ⟨x0, x1, x2, x3⟩ := id s6
      have y0 := kkeep kk e1
      have y1 := kkeep kk e2
      clear g1 g2 g4 hR2 hput hget hin e1 e2
      refine Fq.wp_region_grow (by kernel_rfl) (by kernel_rfl) (fun ι _ G hG hall => ?_)
      have cc0 : ∀ n, (G n).cell? ⟨B6, 0, none⟩ = some (.float .f64 R1) := fun n => Fq.gkeep (hG n) x0
      have cc1 : ∀ n, (G n).cell? ⟨B6, 1, none⟩ = some (.float .f64 R2) := fun n => Fq.gkeep (hG n) x1
      have cc2 : ∀ n, (G n).cell? ⟨bb_, off + k * 2, none⟩ = some (.int .u64 Z1) := fun n => Fq.gkeep (hG n) y0
      have cc3 : ∀ n, (G n).cell? ⟨bb_, off + k * 2 + 1, none⟩ = some (.int .u64 Z2) := fun n => Fq.gkeep (hG n) y1
      repeat (go_big_quiet_step (first | (go_at_call 12; exact (ho _).mono (fun e w' h => ⟨h.1, hall _ (Fq.gtrans (hG _) h.2)⟩)) | (go_at_call 13; exact (hr _).mono (fun e w' h => ⟨h.1, hall _ (Fq.gtrans (hG _) h.2)⟩))))
      refine wpQuiet_nil ?_
      rintro _ ⟨nq, rfl⟩
      have gq : Kp W (G nq) := hG nq
      clear cc0 cc1 cc2 cc3 hall hG
      have kq := Kp.trans kk gq
      have sB2 := H3c.keep sB kq
      have hg2 := Kp.trans hg kq
      clear x0 x1 x2 x3 y0 y1 s6 sB kk kq
      go_wp2
      exact ⟨⟨k + 1, by omega, by go_num, sB2, hg2⟩, by simp [intOf]; omega⟩
    · clear hk hN hx hq
      obtain ⟨x0, x1, x2, x3, x4, x5⟩ := id sB
      go_upto_region 10 with (first | (go_at_call 16; refine (HDI _).mono ?_; rintro e w1 ⟨rfl, g1⟩) | (go_at_call 15; refine (HPD _).mono ?_; rintro e w2 ⟨gp, rfl, hgp, hR2, g2⟩) | (go_at_call 14; refine (HGD gp _ (arr_all hR2 hys)).mono ?_; rintro e w4 ⟨rfl, g4⟩))
      have kk : Kp wr w4 := Kp.trans (Kp.trans g1 g2) g4
      have s8 := H3c.new w4 (.float .f64 P) (.float .f64 Q) (.int .i64 R) 41
      replace kk := kk.alloc (.cells #[.float .f64 P, .float .f64 Q, .int .i64 R] 41)
      replace sB := H3c.keep sB kk
      replace hg := Kp.trans hg kk
      generalize w4.alloc (.cells #[.float .f64 P, .float .f64 Q, .int .i64 R] 41) = W at s8 sB hg ⊢
      generalize w4.heap.size = B8_ at s8 ⊢
      clear x0 x1 x2 x3 x4 x5 g1 g2 g4 kk hR2
      obtain ⟨x0, x1, x2, x3, x4, x5⟩ := id sB
      obtain ⟨y0, y1, y2, y3, y4, y5⟩ := id s8
      refine Fq.wp_region_grow (by kernel_rfl) (by kernel_rfl) (fun ι _ G hG hall => ?_)
      have cc0 : ∀ n, (G n).cell? ⟨B8_, 0, none⟩ = some (.float .f64 P) := fun n => Fq.gkeep (hG n) y0
      have cc1 : ∀ n, (G n).cell? ⟨B8_, 1, none⟩ = some (.float .f64 Q) := fun n => Fq.gkeep (hG n) y1
      have cc2 : ∀ n, (G n).cell? ⟨B8_, 2, none⟩ = some (.int .i64 R) := fun n => Fq.gkeep (hG n) y2
      have cc3 : ∀ n, (G n).cell? ⟨B, 0, none⟩ = some (.int .u64 X1) := fun n => Fq.gkeep (hG n) x0
      have cc4 : ∀ n, (G n).cell? ⟨B, 1, none⟩ = some (.int .u64 X2) := fun n => Fq.gkeep (hG n) x1
      have cc5 : ∀ n, (G n).cell? ⟨B, 2, none⟩ = some (.int .i64 D) := fun n => Fq.gkeep (hG n) x2
      repeat (go_big_quiet_step (first | (go_at_call 17; exact (HOD _).mono (fun e w' h => ⟨h.1, hall _ (Fq.gtrans (hG _) h.2)⟩)) | (go_at_call 18; exact (HRD _).mono (fun e w' h => ⟨h.1, hall _ (Fq.gtrans (hG _) h.2)⟩))))
      refine wpQuiet_nil ?_
      rintro _ ⟨nq, rfl⟩
      have gq : Kp W (G nq) := hG nq
      clear cc0 cc1 cc2 cc3 cc4 cc5 hall hG
      replace hg := Kp.trans hg gq
      clear x0 x1 x2 x3 x4 x5 y0 y1 y2 y3 y4 y5 s8 sB HDI HPD HGD HOD HRD
      have hpl := HX.out.1
      have HGW : Hid (Kp w (G nq)) := hg
      go_wp2_with (first | (go_at_call 20; refine (HIB _ hg).mono ?_; rintro e w5 ⟨v5, rfl, o5, g5⟩; obtain ⟨p5, c5, rfl, a5, -⟩ := o5.arr; rw [hpl]) | (go_at_call 19; refine (HPB _ _ _ a5).mono ?_; rintro e w6 ⟨gp, rfl, hgp, hR6, g6⟩; have kf := Kp.trans (Kp.trans hg g5) g6) | (go_at_call 21; refine (HGB gp _ (arr_all hR6 hzs)).mono ?_; rintro e w7 ⟨p7, d7, rfl, a7, g7⟩; have kh := Kp.trans kf g7))
      have HA7 : Hid (AG FLV w7 p7 (rdb ps)) := a7
      clear hg HGW g5 g6 g7 kf hR6 a5 o5 HIB HPB HGB a7 hpl
      go_loopw [13] (fun i wr => ∃ k : Nat, k ≤ N ∧ i = .int .i64 k ∧ Kp w7 wr) (fun i _ => N - (intOf i).toNat)
      case atStart => exact ⟨0, Nat.zero_le _, rfl, Kp.refl _⟩
      case round =>
        obtain ⟨k, hk, rfl, hg⟩ := hrel
        obtain ⟨hN, hx, hq⟩ := HX.out
        by_cases ck : k < N
        · obtain ⟨bb_, off, rfl, hc⟩ := hx.at (k := k) (by omega)
          obtain ⟨b9, off9, rfl, hc9⟩ := HA7.out.at (k := k) (by rw [rdb_len]; omega)
          have hc9k := hc9 k (by rw [rdb_len]; omega)
          rw [rdb_get ps k (by omega)] at hc9k
          have e1 : wr.cell? ⟨bb_, off + k * 2, none⟩ = some (.int .u64 (((ps.getD k (0, 0)).1 : Nat) : Int)) := kkeep (Kp.trans kh hg) (hc k (by omega)).1
          have e2 : wr.cell? ⟨bb_, off + k * 2 + 1, none⟩ = some (.int .u64 (((ps.getD k (0, 0)).2 : Nat) : Int)) := kkeep (Kp.trans kh hg) (hc k (by omega)).2
          have f1 : wr.cell? ⟨b9, off9 + k * 2, none⟩ = some (.float .f64 (Fq.rlo (ps.getD k (0, 0)).1 (ps.getD k (0, 0)).2)) := kkeep hg hc9k.1
          have f2 : wr.cell? ⟨b9, off9 + k * 2 + 1, none⟩ = some (.float .f64 (Fq.rhi (ps.getD k (0, 0)).1 (ps.getD k (0, 0)).2)) := kkeep hg hc9k.2
          have ho := out9_ (Fq.rlo (ps.getD k (0, 0)).1 (ps.getD k (0, 0)).2) (Fq.rhi (ps.getD k (0, 0)).1 (ps.getD k (0, 0)).2)
          have hr : ∀ w : World, Calls Try.prog 13 #[.agg #[.int .u64 (((ps.getD k (0, 0)).1 : Nat) : Int), .int .u64 (((ps.getD k (0, 0)).2 : Nat) : Int)]] w fun e w' => e = .returned (.agg #[.int .u64 ((Fq.rlo (ps.getD k (0, 0)).1 (ps.getD k (0, 0)).2 : Nat) : Int), .int .u64 ((Fq.rhi (ps.getD k (0, 0)).1 (ps.getD k (0, 0)).2 : Nat) : Int)]) ∧ Kp w w' := by
            obtain ⟨L, H, r⟩ := Rd.ex (ps.getD k (0, 0)).1 (ps.getD k (0, 0)).2 (hq k).1 (hq k).2
            have := rread9_ (ps.getD k (0, 0)).1 (ps.getD k (0, 0)).2 L H r
            unfold pI at this
            rw [← r.2.2.2.1, ← r.2.2.2.2] at this
            exact this
          generalize Fq.rlo (ps.getD k (0, 0)).1 (ps.getD k (0, 0)).2 = R1 at f1 ho hr
          generalize Fq.rhi (ps.getD k (0, 0)).1 (ps.getD k (0, 0)).2 = R2 at f2 ho hr
          generalize (ps.getD k (0, 0)).1 = Y1 at e1 hr
          generalize (ps.getD k (0, 0)).2 = Y2 at e2 hr
          generalize (Y1 : Int) = Z1 at e1 hr
          generalize (Y2 : Int) = Z2 at e2 hr
          generalize (R1 : Int) = S1 at ho hr
          generalize (R2 : Int) = S2 at ho hr
          clear hc hc9 hc9k HX HA7 hN hx hq hk
          go_wp2
          refine Fq.wp_region_grow (by kernel_rfl) (by kernel_rfl) (fun ι _ G hG hall => ?_)
          have cc0 : ∀ n, (G n).cell? ⟨b9, off9 + k * 2, none⟩ = some (.float .f64 R1) := fun n => Fq.gkeep (hG n) f1
          have cc1 : ∀ n, (G n).cell? ⟨b9, off9 + k * 2 + 1, none⟩ = some (.float .f64 R2) := fun n => Fq.gkeep (hG n) f2
          have cc2 : ∀ n, (G n).cell? ⟨bb_, off + k * 2, none⟩ = some (.int .u64 Z1) := fun n => Fq.gkeep (hG n) e1
          have cc3 : ∀ n, (G n).cell? ⟨bb_, off + k * 2 + 1, none⟩ = some (.int .u64 Z2) := fun n => Fq.gkeep (hG n) e2
          repeat (go_big_quiet_step (first | (go_at_call 12; exact (ho _).mono (fun e w' h => ⟨h.1, hall _ (Fq.gtrans (hG _) h.2)⟩)) | (go_at_call 13; exact (hr _).mono (fun e w' h => ⟨h.1, hall _ (Fq.gtrans (hG _) h.2)⟩))))
          refine wpQuiet_nil ?_
          rintro _ ⟨nq, rfl⟩
          have gq : Kp wr (G nq) := hG nq
          clear cc0 cc1 cc2 cc3 hall hG
          go_wp2
          exact ⟨⟨k + 1, by omega, by go_num, Kp.trans hg gq⟩, by simp [intOf]; omega⟩
        · have hK := Kp.trans kh hg
          clear HX HA7 hN hx hq
          go_wp2
          exact bodyPost_ret (v := .bool true) (by simp [results, Try.results3, go_sem]) rfl ⟨rfl, hK⟩
end B8
end Go.Proofs.Ytbcjhmdkpkmieab
namespace Go.Proofs.Ytbcjhmdkpkmieab
open Go.RowKit
open Go
namespace B8
set_option maxRecDepth 20000 in
set_option maxHeartbeats 1000000 in
theorem putboxN_ (p : Option Addr) (N c : Nat) (h : 32 < N) (w : World) : Calls Try.prog 19 #[.slice p N c] w fun e w' => e = .returned (.tuple #[.slice none 0 0, .int .i64 2]) ∧ Kp w w' := by
  have h2 : (32 : Int) < (N : Int) := by omega
  clear h
  go_enter Try.func19, Try.ntmps19
  go_wp2
  exact bodyPost_ret (v := .tuple #[.slice none 0 0, .int .i64 2]) (by simp [results, Try.results19, go_sem]) rfl ⟨rfl, Kp.refl _⟩
end B8
end Go.Proofs.Ytbcjhmdkpkmieab
namespace Go.Proofs.Ytbcjhmdkpkmieab
open Go.RowKit
open Go
namespace B8
theorem H3c.newD (w : World) (v0 v1 v2 : Value) (t : TypeId) : H3c ((w.alloc (.cells #[v0, v1, v2] t)).drew) w.heap.size v0 v1 v2 := by
  unfold H3c; simp [go_sem]
set_option maxRecDepth 20000 in
set_option maxHeartbeats 2000000 in
theorem rreadA_ (X Y P Q D : Int) (hpl : ∀ w : World, Calls Try.prog 39 #[.agg #[.int .u64 X, .int .u64 Y]] w fun e w' => e = .returned (.agg #[.int .u64 P, .int .u64 Q]) ∧ Kp w w') (hv : ∀ w : World, Calls Try.prog 40 #[.agg #[.int .u64 P, .int .u64 Q]] w fun e w' => e = .returned (.bool false) ∧ Kp w w') (w : World) : Calls Try.prog 18 #[.agg #[.int .u64 X, .int .u64 Y, .int .i64 D]] w fun e w' => e = .returned (.agg #[.int .u64 9218868437227405312, .int .u64 18442240474082181120, .int .i64 0]) ∧ Kp w w' := by
  go_enter Try.func18, Try.ntmps18
  go_upto_region 1 with fail
  have sx : H3c ((w.alloc (.cells #[.int .u64 X, .int .u64 Y, .int .i64 D] 27)).alloc (.cells #[.int .u64 0, .int .u64 0, .int .i64 0] 27)) w.heap.size (.int .u64 X) (.int .u64 Y) (.int .i64 D) := H3c.keep (H3c.new w (.int .u64 X) (.int .u64 Y) (.int .i64 D) 27) ((Kp.refl _).alloc _)
  have sr := H3c.two w #[.int .u64 X, .int .u64 Y, .int .i64 D] (.int .u64 0) (.int .u64 0) (.int .i64 0) 27 27
  have kw : Kp w ((w.alloc (.cells #[.int .u64 X, .int .u64 Y, .int .i64 D] 27)).alloc (.cells #[.int .u64 0, .int .u64 0, .int .i64 0] 27)) := ((Kp.refl w).alloc _).alloc _
  have hsw : w.heap.size + 1 < ((w.alloc (.cells #[.int .u64 X, .int .u64 Y, .int .i64 D] 27)).alloc (.cells #[.int .u64 0, .int .u64 0, .int .i64 0] 27)).heap.size := by simp
  generalize (w.alloc (.cells #[.int .u64 X, .int .u64 Y, .int .i64 D] 27)).alloc (.cells #[.int .u64 0, .int .u64 0, .int .i64 0] 27) = W at sx sr kw hsw ⊢
  obtain ⟨x0, x1, x2, x3, x4, x5⟩ := id sx
  obtain ⟨r0, r1, r2, r3, r4, r5⟩ := id sr
  go_cut [3] (fun s3 wx => ∃ g : Nat, s3 = .pointer (some ⟨g, 0, none⟩) ∧ H3c wx g (.int .u64 P) (.int .u64 Q) (.int .i64 D) ∧ Kp W wx ∧ W.heap.size ≤ g)
  case first =>
    go_region_held3 (fun w' => w'.cell? ⟨w.heap.size, 0, none⟩ = some (.int .u64 X) ∧ w'.cell? ⟨w.heap.size, 1, none⟩ = some (.int .u64 Y) ∧ w'.cell? ⟨w.heap.size, 2, none⟩ = some (.int .i64 D)) (first | (with_reducible exact ⟨x0, x1, x2⟩) | (with_reducible exact ⟨cb0_0, cb0_1, cb0_2⟩) | (refine ⟨(kkeep (W := W) ?_ x0), (kkeep (W := W) ?_ x1), (kkeep (W := W) ?_ x2)⟩ <;> ((repeat (first | with_reducible exact Kp.refl _ | with_reducible apply Kp.drew | with_reducible apply Kp.alloc)); done)) | (refine ⟨(kkeep (W := w1) ?_ cb0_0), (kkeep (W := w1) ?_ cb0_1), (kkeep (W := w1) ?_ cb0_2)⟩ <;> ((repeat (first | with_reducible exact Kp.refl _ | with_reducible apply Kp.drew | with_reducible apply Kp.alloc)); done)) | (refine ⟨?_, ?_, ?_⟩ <;> (refine ((World.cell?_setCell_far _ _ _ _ ?_).trans ((World.cell?_setCell_far _ _ _ _ ?_).trans ((World.cell?_setCell_far _ _ _ _ ?_).trans ?_))) <;> first | assumption | (have h90 := cell_lt x0; have h91 := cell_lt x1; have h92 := cell_lt x2; have h80 := Below.size KB0; first | omega | (simp <;> omega))))) (first | (go_at_call 39; refine (hpl _).mono ?_; rintro e w1 ⟨rfl, g1⟩; have KB0 : Kp W w1 := Kp.trans (by (repeat (first | exact Kp.refl _ | apply Kp.drew | apply Kp.alloc)); done) g1; have cb0_0 := kkeep KB0 x0; have cb0_1 := kkeep KB0 x1; have cb0_2 := kkeep KB0 x2; first | ((with_reducible have hb9 := (H3c.keep (H3c.newD W (.int .u64 0) (.int .u64 0) (.int .i64 0) 27) g1)); obtain ⟨mb0, mb1, mb2, mb3, mb4, mb5⟩ := id hb9) | skip))
    all_goals go_wp2_with fail
    all_goals (
      go_meet
      refine ⟨_, rfl, ?_, ?_, ?_⟩
      · first | (with_reducible exact H3c.put hb9 _ _ _) | (with_reducible exact H3c.put (H3c.new w1 (.int .u64 0) (.int .u64 0) (.int .i64 0) 27) _ _ _) | (with_reducible exact H3c.new w1 _ _ _ 27) | (unfold H3c; simp [go_sem]; done)
      · have h80 := Below.size KB0
        first | (with_reducible exact (Kp.alloc KB0 _)) | ((with_reducible refine (Kp.setCell (Kp.setCell (Kp.setCell KB0 ?_ _) ?_ _) ?_ _)) <;> first | omega | (simp <;> omega)) | ((with_reducible refine (Kp.setCell (Kp.setCell (Kp.setCell (Kp.alloc KB0 _) ?_ _) ?_ _) ?_ _)) <;> first | omega | (simp <;> omega))
      · have h80 := Below.size KB0
        first | exact Nat.le_refl _ | omega | (simp <;> omega))
  case rest =>
  obtain ⟨g3, rfl, q3, gc, hg9⟩ := hcut
  replace kw := Kp.trans kw gc
  replace sx := H3c.keep sx gc
  replace sr := H3c.keep sr gc
  clear x0 x1 x2 x3 x4 x5 r0 r1 r2 r3 r4 r5
  obtain ⟨x0, x1, x2, x3, x4, x5⟩ := id sx
  obtain ⟨r0, r1, r2, r3, r4, r5⟩ := id sr
  obtain ⟨y0, y1, y2, y3, y4, y5⟩ := id q3
  have hne : g3 ≠ w.heap.size + 1 := by omega
  have hne2 : w.heap.size + 1 ≠ g3 := by omega
  have hwg : w.heap.size ≤ g3 := by omega
  clear hg9 hsw
  go_wp2_with (first | (go_at_call 40; refine (hv _).mono ?_; rintro e w2 ⟨rfl, g2⟩; replace kw := Kp.trans kw g2; replace sx := H3c.keep sx g2; replace sr := H3c.keep sr g2; replace q3 := H3c.keep q3 g2; clear x0 x1 x2 x3 x4 x5 r0 r1 r2 r3 r4 r5 y0 y1 y2 y3 y4 y5; obtain ⟨x0, x1, x2, x3, x4, x5⟩ := id sx; obtain ⟨r0, r1, r2, r3, r4, r5⟩ := id sr; obtain ⟨y0, y1, y2, y3, y4, y5⟩ := id q3) | (go_at_call 41; refine (rnai13_ _).mono ?_; rintro e w3 ⟨rfl, g3'⟩; replace kw := Kp.trans kw g3'; replace sx := H3c.keep sx g3'; replace sr := H3c.keep sr g3'; replace q3 := H3c.keep q3 g3'; clear x0 x1 x2 x3 x4 x5 r0 r1 r2 r3 r4 r5 y0 y1 y2 y3 y4 y5; obtain ⟨x0, x1, x2, x3, x4, x5⟩ := id sx; obtain ⟨r0, r1, r2, r3, r4, r5⟩ := id sr; obtain ⟨y0, y1, y2, y3, y4, y5⟩ := id q3))
  exact bodyPost_ret (v := .agg #[.int .u64 9218868437227405312, .int .u64 18442240474082181120, .int .i64 0]) (by simp [results, Try.results18, go_sem, r0, r1, r2]) rfl ⟨rfl, (((kw.setCell (by simp) _).setCell (by simp) _).setCell (by simp) _)⟩
set_option maxRecDepth 20000 in
set_option maxHeartbeats 2000000 in
theorem rreadB_ (X Y P Q D : Int) (t4 : (D != 4) = true) (t8 : (D != 8) = true) (t12 : (D != 12) = true) (t16 : (D != 16) = true) (hpl : ∀ w : World, Calls Try.prog 39 #[.agg #[.int .u64 X, .int .u64 Y]] w fun e w' => e = .returned (.agg #[.int .u64 P, .int .u64 Q]) ∧ Kp w w') (hv : ∀ w : World, Calls Try.prog 40 #[.agg #[.int .u64 P, .int .u64 Q]] w fun e w' => e = .returned (.bool true) ∧ Kp w w') (w : World) : Calls Try.prog 18 #[.agg #[.int .u64 X, .int .u64 Y, .int .i64 D]] w fun e w' => e = .returned (.agg #[.int .u64 9218868437227405312, .int .u64 18442240474082181120, .int .i64 0]) ∧ Kp w w' := by
  go_enter Try.func18, Try.ntmps18
  go_upto_region 1 with fail
  have sx : H3c ((w.alloc (.cells #[.int .u64 X, .int .u64 Y, .int .i64 D] 27)).alloc (.cells #[.int .u64 0, .int .u64 0, .int .i64 0] 27)) w.heap.size (.int .u64 X) (.int .u64 Y) (.int .i64 D) := H3c.keep (H3c.new w (.int .u64 X) (.int .u64 Y) (.int .i64 D) 27) ((Kp.refl _).alloc _)
  have sr := H3c.two w #[.int .u64 X, .int .u64 Y, .int .i64 D] (.int .u64 0) (.int .u64 0) (.int .i64 0) 27 27
  have kw : Kp w ((w.alloc (.cells #[.int .u64 X, .int .u64 Y, .int .i64 D] 27)).alloc (.cells #[.int .u64 0, .int .u64 0, .int .i64 0] 27)) := ((Kp.refl w).alloc _).alloc _
  have hsw : w.heap.size + 1 < ((w.alloc (.cells #[.int .u64 X, .int .u64 Y, .int .i64 D] 27)).alloc (.cells #[.int .u64 0, .int .u64 0, .int .i64 0] 27)).heap.size := by simp
  generalize (w.alloc (.cells #[.int .u64 X, .int .u64 Y, .int .i64 D] 27)).alloc (.cells #[.int .u64 0, .int .u64 0, .int .i64 0] 27) = W at sx sr kw hsw ⊢
  obtain ⟨x0, x1, x2, x3, x4, x5⟩ := id sx
  obtain ⟨r0, r1, r2, r3, r4, r5⟩ := id sr
  go_cut [3] (fun s3 wx => ∃ g : Nat, s3 = .pointer (some ⟨g, 0, none⟩) ∧ H3c wx g (.int .u64 P) (.int .u64 Q) (.int .i64 D) ∧ Kp W wx ∧ W.heap.size ≤ g)
  case first =>
    go_region_held3 (fun w' => w'.cell? ⟨w.heap.size, 0, none⟩ = some (.int .u64 X) ∧ w'.cell? ⟨w.heap.size, 1, none⟩ = some (.int .u64 Y) ∧ w'.cell? ⟨w.heap.size, 2, none⟩ = some (.int .i64 D)) (first | (with_reducible exact ⟨x0, x1, x2⟩) | (with_reducible exact ⟨cb0_0, cb0_1, cb0_2⟩) | (refine ⟨(kkeep (W := W) ?_ x0), (kkeep (W := W) ?_ x1), (kkeep (W := W) ?_ x2)⟩ <;> ((repeat (first | with_reducible exact Kp.refl _ | with_reducible apply Kp.drew | with_reducible apply Kp.alloc)); done)) | (refine ⟨(kkeep (W := w1) ?_ cb0_0), (kkeep (W := w1) ?_ cb0_1), (kkeep (W := w1) ?_ cb0_2)⟩ <;> ((repeat (first | with_reducible exact Kp.refl _ | with_reducible apply Kp.drew | with_reducible apply Kp.alloc)); done)) | (refine ⟨?_, ?_, ?_⟩ <;> (refine ((World.cell?_setCell_far _ _ _ _ ?_).trans ((World.cell?_setCell_far _ _ _ _ ?_).trans ((World.cell?_setCell_far _ _ _ _ ?_).trans ?_))) <;> first | assumption | (have h90 := cell_lt x0; have h91 := cell_lt x1; have h92 := cell_lt x2; have h80 := Below.size KB0; first | omega | (simp <;> omega))))) (first | (go_at_call 39; refine (hpl _).mono ?_; rintro e w1 ⟨rfl, g1⟩; have KB0 : Kp W w1 := Kp.trans (by (repeat (first | exact Kp.refl _ | apply Kp.drew | apply Kp.alloc)); done) g1; have cb0_0 := kkeep KB0 x0; have cb0_1 := kkeep KB0 x1; have cb0_2 := kkeep KB0 x2; first | ((with_reducible have hb9 := (H3c.keep (H3c.newD W (.int .u64 0) (.int .u64 0) (.int .i64 0) 27) g1)); obtain ⟨mb0, mb1, mb2, mb3, mb4, mb5⟩ := id hb9) | skip))
    all_goals go_wp2_with fail
    all_goals (
      go_meet
      refine ⟨_, rfl, ?_, ?_, ?_⟩
      · first | (with_reducible exact H3c.put hb9 _ _ _) | (with_reducible exact H3c.put (H3c.new w1 (.int .u64 0) (.int .u64 0) (.int .i64 0) 27) _ _ _) | (with_reducible exact H3c.new w1 _ _ _ 27) | (unfold H3c; simp [go_sem]; done)
      · have h80 := Below.size KB0
        first | (with_reducible exact (Kp.alloc KB0 _)) | ((with_reducible refine (Kp.setCell (Kp.setCell (Kp.setCell KB0 ?_ _) ?_ _) ?_ _)) <;> first | omega | (simp <;> omega)) | ((with_reducible refine (Kp.setCell (Kp.setCell (Kp.setCell (Kp.alloc KB0 _) ?_ _) ?_ _) ?_ _)) <;> first | omega | (simp <;> omega))
      · have h80 := Below.size KB0
        first | exact Nat.le_refl _ | omega | (simp <;> omega))
  case rest =>
  obtain ⟨g3, rfl, q3, gc, hg9⟩ := hcut
  replace kw := Kp.trans kw gc
  replace sx := H3c.keep sx gc
  replace sr := H3c.keep sr gc
  clear x0 x1 x2 x3 x4 x5 r0 r1 r2 r3 r4 r5
  obtain ⟨x0, x1, x2, x3, x4, x5⟩ := id sx
  obtain ⟨r0, r1, r2, r3, r4, r5⟩ := id sr
  obtain ⟨y0, y1, y2, y3, y4, y5⟩ := id q3
  have hne : g3 ≠ w.heap.size + 1 := by omega
  have hne2 : w.heap.size + 1 ≠ g3 := by omega
  have hwg : w.heap.size ≤ g3 := by omega
  clear hg9 hsw
  go_wp2_with (first | (go_at_call 40; refine (hv _).mono ?_; rintro e w2 ⟨rfl, g2⟩; replace kw := Kp.trans kw g2; replace sx := H3c.keep sx g2; replace sr := H3c.keep sr g2; replace q3 := H3c.keep q3 g2; clear x0 x1 x2 x3 x4 x5 r0 r1 r2 r3 r4 r5 y0 y1 y2 y3 y4 y5; obtain ⟨x0, x1, x2, x3, x4, x5⟩ := id sx; obtain ⟨r0, r1, r2, r3, r4, r5⟩ := id sr; obtain ⟨y0, y1, y2, y3, y4, y5⟩ := id q3) | (go_at_call 41; refine (rnai13_ _).mono ?_; rintro e w3 ⟨rfl, g3'⟩; replace kw := Kp.trans kw g3'; replace sx := H3c.keep sx g3'; replace sr := H3c.keep sr g3'; replace q3 := H3c.keep q3 g3'; clear x0 x1 x2 x3 x4 x5 r0 r1 r2 r3 r4 r5 y0 y1 y2 y3 y4 y5; obtain ⟨x0, x1, x2, x3, x4, x5⟩ := id sx; obtain ⟨r0, r1, r2, r3, r4, r5⟩ := id sr; obtain ⟨y0, y1, y2, y3, y4, y5⟩ := id q3))
  exact bodyPost_ret (v := .agg #[.int .u64 9218868437227405312, .int .u64 18442240474082181120, .int .i64 0]) (by simp [results, Try.results18, go_sem, r0, r1, r2]) rfl ⟨rfl, (((kw.setCell (by simp) _).setCell (by simp) _).setCell (by simp) _)⟩
end B8
end Go.Proofs.Ytbcjhmdkpkmieab
namespace Go.Proofs.Ytbcjhmdkpkmieab
open Go.RowKit
open Go
namespace B8
set_option maxRecDepth 20000 in
set_option maxHeartbeats 2000000 in
theorem rreadE4_ (X Y P Q : Int) (t1 : (P == 9218868437227405312) = true) (t2 : (Q == 18442240474082181120) = true) (hpl : ∀ w : World, Calls Try.prog 39 #[.agg #[.int .u64 X, .int .u64 Y]] w fun e w' => e = .returned (.agg #[.int .u64 P, .int .u64 Q]) ∧ Kp w w') (hv : ∀ w : World, Calls Try.prog 40 #[.agg #[.int .u64 P, .int .u64 Q]] w fun e w' => e = .returned (.bool true) ∧ Kp w w') (w : World) : Calls Try.prog 18 #[.agg #[.int .u64 X, .int .u64 Y, .int .i64 4]] w fun e w' => e = .returned (.agg #[.int .u64 P, .int .u64 Q, .int .i64 4]) ∧ Kp w w' := by
  go_enter Try.func18, Try.ntmps18
  go_upto_region 1 with fail
  have sx : H3c ((w.alloc (.cells #[.int .u64 X, .int .u64 Y, .int .i64 4] 27)).alloc (.cells #[.int .u64 0, .int .u64 0, .int .i64 0] 27)) w.heap.size (.int .u64 X) (.int .u64 Y) (.int .i64 4) := H3c.keep (H3c.new w (.int .u64 X) (.int .u64 Y) (.int .i64 4) 27) ((Kp.refl _).alloc _)
  have sr := H3c.two w #[.int .u64 X, .int .u64 Y, .int .i64 4] (.int .u64 0) (.int .u64 0) (.int .i64 0) 27 27
  have kw : Kp w ((w.alloc (.cells #[.int .u64 X, .int .u64 Y, .int .i64 4] 27)).alloc (.cells #[.int .u64 0, .int .u64 0, .int .i64 0] 27)) := ((Kp.refl w).alloc _).alloc _
  have hsw : w.heap.size + 1 < ((w.alloc (.cells #[.int .u64 X, .int .u64 Y, .int .i64 4] 27)).alloc (.cells #[.int .u64 0, .int .u64 0, .int .i64 0] 27)).heap.size := by simp
  generalize (w.alloc (.cells #[.int .u64 X, .int .u64 Y, .int .i64 4] 27)).alloc (.cells #[.int .u64 0, .int .u64 0, .int .i64 0] 27) = W at sx sr kw hsw ⊢
  obtain ⟨x0, x1, x2, x3, x4, x5⟩ := id sx
  obtain ⟨r0, r1, r2, r3, r4, r5⟩ := id sr
  go_cut [3] (fun s3 wx => ∃ g : Nat, s3 = .pointer (some ⟨g, 0, none⟩) ∧ H3c wx g (.int .u64 P) (.int .u64 Q) (.int .i64 4) ∧ Kp W wx ∧ W.heap.size ≤ g)
  case first =>
    go_region_held3 (fun w' => w'.cell? ⟨w.heap.size, 0, none⟩ = some (.int .u64 X) ∧ w'.cell? ⟨w.heap.size, 1, none⟩ = some (.int .u64 Y) ∧ w'.cell? ⟨w.heap.size, 2, none⟩ = some (.int .i64 4)) (first | (with_reducible exact ⟨x0, x1, x2⟩) | (with_reducible exact ⟨cb0_0, cb0_1, cb0_2⟩) | (refine ⟨(kkeep (W := W) ?_ x0), (kkeep (W := W) ?_ x1), (kkeep (W := W) ?_ x2)⟩ <;> ((repeat (first | with_reducible exact Kp.refl _ | with_reducible apply Kp.drew | with_reducible apply Kp.alloc)); done)) | (refine ⟨(kkeep (W := w1) ?_ cb0_0), (kkeep (W := w1) ?_ cb0_1), (kkeep (W := w1) ?_ cb0_2)⟩ <;> ((repeat (first | with_reducible exact Kp.refl _ | with_reducible apply Kp.drew | with_reducible apply Kp.alloc)); done)) | (refine ⟨?_, ?_, ?_⟩ <;> (refine ((World.cell?_setCell_far _ _ _ _ ?_).trans ((World.cell?_setCell_far _ _ _ _ ?_).trans ((World.cell?_setCell_far _ _ _ _ ?_).trans ?_))) <;> first | assumption | (have h90 := cell_lt x0; have h91 := cell_lt x1; have h92 := cell_lt x2; have h80 := Below.size KB0; first | omega | (simp <;> omega))))) (first | (go_at_call 39; refine (hpl _).mono ?_; rintro e w1 ⟨rfl, g1⟩; have KB0 : Kp W w1 := Kp.trans (by (repeat (first | exact Kp.refl _ | apply Kp.drew | apply Kp.alloc)); done) g1; have cb0_0 := kkeep KB0 x0; have cb0_1 := kkeep KB0 x1; have cb0_2 := kkeep KB0 x2; first | ((with_reducible have hb9 := (H3c.keep (H3c.newD W (.int .u64 0) (.int .u64 0) (.int .i64 0) 27) g1)); obtain ⟨mb0, mb1, mb2, mb3, mb4, mb5⟩ := id hb9) | skip))
    all_goals go_wp2_with fail
    all_goals (
      go_meet
      refine ⟨_, rfl, ?_, ?_, ?_⟩
      · first | (with_reducible exact H3c.put hb9 _ _ _) | (with_reducible exact H3c.put (H3c.new w1 (.int .u64 0) (.int .u64 0) (.int .i64 0) 27) _ _ _) | (with_reducible exact H3c.new w1 _ _ _ 27) | (unfold H3c; simp [go_sem]; done)
      · have h80 := Below.size KB0
        first | (with_reducible exact (Kp.alloc KB0 _)) | ((with_reducible refine (Kp.setCell (Kp.setCell (Kp.setCell KB0 ?_ _) ?_ _) ?_ _)) <;> first | omega | (simp <;> omega)) | ((with_reducible refine (Kp.setCell (Kp.setCell (Kp.setCell (Kp.alloc KB0 _) ?_ _) ?_ _) ?_ _)) <;> first | omega | (simp <;> omega))
      · have h80 := Below.size KB0
        first | exact Nat.le_refl _ | omega | (simp <;> omega))
  case rest =>
  obtain ⟨g3, rfl, q3, gc, hg9⟩ := hcut
  replace kw := Kp.trans kw gc
  replace sx := H3c.keep sx gc
  replace sr := H3c.keep sr gc
  clear x0 x1 x2 x3 x4 x5 r0 r1 r2 r3 r4 r5
  obtain ⟨x0, x1, x2, x3, x4, x5⟩ := id sx
  obtain ⟨r0, r1, r2, r3, r4, r5⟩ := id sr
  obtain ⟨y0, y1, y2, y3, y4, y5⟩ := id q3
  have hne : g3 ≠ w.heap.size + 1 := by omega
  have hne2 : w.heap.size + 1 ≠ g3 := by omega
  have hwg : w.heap.size ≤ g3 := by omega
  clear hg9 hsw
  go_upto_region 4 with (first | (go_at_call 40; refine (hv _).mono ?_; rintro e w2 ⟨rfl, g2⟩; replace kw := Kp.trans kw g2; replace sx := H3c.keep sx g2; replace sr := H3c.keep sr g2; replace q3 := H3c.keep q3 g2; clear x0 x1 x2 x3 x4 x5 r0 r1 r2 r3 r4 r5 y0 y1 y2 y3 y4 y5; obtain ⟨x0, x1, x2, x3, x4, x5⟩ := id sx; obtain ⟨r0, r1, r2, r3, r4, r5⟩ := id sr; obtain ⟨y0, y1, y2, y3, y4, y5⟩ := id q3))
  refine Fq.wp_region_grow (by kernel_rfl) (by kernel_rfl) (fun ι _ G hG hall => ?_)
  have cc0 : ∀ n, (G n).cell? ⟨g3, 0, none⟩ = some (.int .u64 P) := fun n => Fq.gkeep (hG n) y0
  have cc1 : ∀ n, (G n).cell? ⟨g3, 1, none⟩ = some (.int .u64 Q) := fun n => Fq.gkeep (hG n) y1
  have cc2 : ∀ n, (G n).cell? ⟨g3, 2, none⟩ = some (.int .i64 4) := fun n => Fq.gkeep (hG n) y2
  repeat (go_big_quiet_step (first | (go_at_call 36; exact (rempty9_ _).mono (fun e w' h => ⟨h.1, hall _ (Fq.gtrans (hG _) h.2)⟩))))
  refine wpQuiet_nil ?_
  rintro _ ⟨nq, rfl⟩
  have gq : Kp w2 (G nq) := hG nq
  clear cc0 cc1 cc2 hall hG
  replace kw := Kp.trans kw gq
  replace sx := H3c.keep sx gq
  replace sr := H3c.keep sr gq
  replace q3 := H3c.keep q3 gq
  clear x0 x1 x2 x3 x4 x5 r0 r1 r2 r3 r4 r5 y0 y1 y2 y3 y4 y5
  obtain ⟨x0, x1, x2, x3, x4, x5⟩ := id sx
  obtain ⟨r0, r1, r2, r3, r4, r5⟩ := id sr
  obtain ⟨y0, y1, y2, y3, y4, y5⟩ := id q3
  go_wp2
  exact bodyPost_ret (v := .agg #[.int .u64 P, .int .u64 Q, .int .i64 4]) (by simp [results, Try.results18, go_sem, r0, r1, r2]) rfl ⟨rfl, ((((kw.setCell hwg _).setCell (by simp) _).setCell (by simp) _).setCell (by simp) _)⟩
set_option maxRecDepth 20000 in
set_option maxHeartbeats 2000000 in
theorem rreadS4_ (X Y P Q : Int) (E1 E2 : Bool) (t1 : (P == 9218868437227405312) = E1) (t2 : (Q == 18442240474082181120) = E2) (u : (E1 && E2) = false) (hpl : ∀ w : World, Calls Try.prog 39 #[.agg #[.int .u64 X, .int .u64 Y]] w fun e w' => e = .returned (.agg #[.int .u64 P, .int .u64 Q]) ∧ Kp w w') (hv : ∀ w : World, Calls Try.prog 40 #[.agg #[.int .u64 P, .int .u64 Q]] w fun e w' => e = .returned (.bool true) ∧ Kp w w')  (w : World) : Calls Try.prog 18 #[.agg #[.int .u64 X, .int .u64 Y, .int .i64 4]] w fun e w' => e = .returned (.agg #[.int .u64 P, .int .u64 Q, .int .i64 4]) ∧ Kp w w' := by
  cases E1 <;> cases E2
  case true.true => cases u
  all_goals (
    clear u
    go_enter Try.func18, Try.ntmps18
    go_upto_region 1 with fail
    have sx : H3c ((w.alloc (.cells #[.int .u64 X, .int .u64 Y, .int .i64 4] 27)).alloc (.cells #[.int .u64 0, .int .u64 0, .int .i64 0] 27)) w.heap.size (.int .u64 X) (.int .u64 Y) (.int .i64 4) := H3c.keep (H3c.new w (.int .u64 X) (.int .u64 Y) (.int .i64 4) 27) ((Kp.refl _).alloc _)
    have sr := H3c.two w #[.int .u64 X, .int .u64 Y, .int .i64 4] (.int .u64 0) (.int .u64 0) (.int .i64 0) 27 27
    have kw : Kp w ((w.alloc (.cells #[.int .u64 X, .int .u64 Y, .int .i64 4] 27)).alloc (.cells #[.int .u64 0, .int .u64 0, .int .i64 0] 27)) := ((Kp.refl w).alloc _).alloc _
    have hsw : w.heap.size + 1 < ((w.alloc (.cells #[.int .u64 X, .int .u64 Y, .int .i64 4] 27)).alloc (.cells #[.int .u64 0, .int .u64 0, .int .i64 0] 27)).heap.size := by simp
    generalize (w.alloc (.cells #[.int .u64 X, .int .u64 Y, .int .i64 4] 27)).alloc (.cells #[.int .u64 0, .int .u64 0, .int .i64 0] 27) = W at sx sr kw hsw ⊢
    obtain ⟨x0, x1, x2, x3, x4, x5⟩ := id sx
    obtain ⟨r0, r1, r2, r3, r4, r5⟩ := id sr
    go_cut [3] (fun s3 wx => ∃ g : Nat, s3 = .pointer (some ⟨g, 0, none⟩) ∧ H3c wx g (.int .u64 P) (.int .u64 Q) (.int .i64 4) ∧ Kp W wx ∧ W.heap.size ≤ g)
    case first =>
      go_region_held3 (fun w' => w'.cell? ⟨w.heap.size, 0, none⟩ = some (.int .u64 X) ∧ w'.cell? ⟨w.heap.size, 1, none⟩ = some (.int .u64 Y) ∧ w'.cell? ⟨w.heap.size, 2, none⟩ = some (.int .i64 4)) (first | (with_reducible exact ⟨x0, x1, x2⟩) | (with_reducible exact ⟨cb0_0, cb0_1, cb0_2⟩) | (refine ⟨(kkeep (W := W) ?_ x0), (kkeep (W := W) ?_ x1), (kkeep (W := W) ?_ x2)⟩ <;> ((repeat (first | with_reducible exact Kp.refl _ | with_reducible apply Kp.drew | with_reducible apply Kp.alloc)); done)) | (refine ⟨(kkeep (W := w1) ?_ cb0_0), (kkeep (W := w1) ?_ cb0_1), (kkeep (W := w1) ?_ cb0_2)⟩ <;> ((repeat (first | with_reducible exact Kp.refl _ | with_reducible apply Kp.drew | with_reducible apply Kp.alloc)); done)) | (refine ⟨?_, ?_, ?_⟩ <;> (refine ((World.cell?_setCell_far _ _ _ _ ?_).trans ((World.cell?_setCell_far _ _ _ _ ?_).trans ((World.cell?_setCell_far _ _ _ _ ?_).trans ?_))) <;> first | assumption | (have h90 := cell_lt x0; have h91 := cell_lt x1; have h92 := cell_lt x2; have h80 := Below.size KB0; first | omega | (simp <;> omega))))) (first | (go_at_call 39; refine (hpl _).mono ?_; rintro e w1 ⟨rfl, g1⟩; have KB0 : Kp W w1 := Kp.trans (by (repeat (first | exact Kp.refl _ | apply Kp.drew | apply Kp.alloc)); done) g1; have cb0_0 := kkeep KB0 x0; have cb0_1 := kkeep KB0 x1; have cb0_2 := kkeep KB0 x2; first | ((with_reducible have hb9 := (H3c.keep (H3c.newD W (.int .u64 0) (.int .u64 0) (.int .i64 0) 27) g1)); obtain ⟨mb0, mb1, mb2, mb3, mb4, mb5⟩ := id hb9) | skip))
      all_goals go_wp2_with fail
      all_goals (
        go_meet
        refine ⟨_, rfl, ?_, ?_, ?_⟩
        · first | (with_reducible exact H3c.put hb9 _ _ _) | (with_reducible exact H3c.put (H3c.new w1 (.int .u64 0) (.int .u64 0) (.int .i64 0) 27) _ _ _) | (with_reducible exact H3c.new w1 _ _ _ 27) | (unfold H3c; simp [go_sem]; done)
        · have h80 := Below.size KB0
          first | (with_reducible exact (Kp.alloc KB0 _)) | ((with_reducible refine (Kp.setCell (Kp.setCell (Kp.setCell KB0 ?_ _) ?_ _) ?_ _)) <;> first | omega | (simp <;> omega)) | ((with_reducible refine (Kp.setCell (Kp.setCell (Kp.setCell (Kp.alloc KB0 _) ?_ _) ?_ _) ?_ _)) <;> first | omega | (simp <;> omega))
        · have h80 := Below.size KB0
          first | exact Nat.le_refl _ | omega | (simp <;> omega))
    case rest =>
    obtain ⟨g3, rfl, q3, gc, hg9⟩ := hcut
    replace kw := Kp.trans kw gc
    replace sx := H3c.keep sx gc
    replace sr := H3c.keep sr gc
    clear x0 x1 x2 x3 x4 x5 r0 r1 r2 r3 r4 r5
    obtain ⟨x0, x1, x2, x3, x4, x5⟩ := id sx
    obtain ⟨r0, r1, r2, r3, r4, r5⟩ := id sr
    obtain ⟨y0, y1, y2, y3, y4, y5⟩ := id q3
    have hne : g3 ≠ w.heap.size + 1 := by omega
    have hne2 : w.heap.size + 1 ≠ g3 := by omega
    have hwg : w.heap.size ≤ g3 := by omega
    clear hg9 hsw
    go_upto_region 4 with (first | (go_at_call 40; refine (hv _).mono ?_; rintro e w2 ⟨rfl, g2⟩; replace kw := Kp.trans kw g2; replace sx := H3c.keep sx g2; replace sr := H3c.keep sr g2; replace q3 := H3c.keep q3 g2; clear x0 x1 x2 x3 x4 x5 r0 r1 r2 r3 r4 r5 y0 y1 y2 y3 y4 y5; obtain ⟨x0, x1, x2, x3, x4, x5⟩ := id sx; obtain ⟨r0, r1, r2, r3, r4, r5⟩ := id sr; obtain ⟨y0, y1, y2, y3, y4, y5⟩ := id q3))
    refine Fq.wp_region_grow (by kernel_rfl) (by kernel_rfl) (fun ι _ G hG hall => ?_)
    have cc0 : ∀ n, (G n).cell? ⟨g3, 0, none⟩ = some (.int .u64 P) := fun n => Fq.gkeep (hG n) y0
    have cc1 : ∀ n, (G n).cell? ⟨g3, 1, none⟩ = some (.int .u64 Q) := fun n => Fq.gkeep (hG n) y1
    have cc2 : ∀ n, (G n).cell? ⟨g3, 2, none⟩ = some (.int .i64 4) := fun n => Fq.gkeep (hG n) y2
    repeat (go_big_quiet_step (first | (go_at_call 36; exact (rempty9_ _).mono (fun e w' h => ⟨h.1, hall _ (Fq.gtrans (hG _) h.2)⟩))))
    refine wpQuiet_nil ?_
    rintro _ ⟨nq, rfl⟩
    have gq : Kp w2 (G nq) := hG nq
    clear cc0 cc1 cc2 hall hG
    replace kw := Kp.trans kw gq
    replace sx := H3c.keep sx gq
    replace sr := H3c.keep sr gq
    replace q3 := H3c.keep q3 gq
    clear x0 x1 x2 x3 x4 x5 r0 r1 r2 r3 r4 r5 y0 y1 y2 y3 y4 y5
    obtain ⟨x0, x1, x2, x3, x4, x5⟩ := id sx
    obtain ⟨r0, r1, r2, r3, r4, r5⟩ := id sr
    obtain ⟨y0, y1, y2, y3, y4, y5⟩ := id q3
    go_wp2
    exact bodyPost_ret (v := .agg #[.int .u64 P, .int .u64 Q, .int .i64 4]) (by simp [results, Try.results18, go_sem, r0, r1, r2]) rfl ⟨rfl, (((kw.setCell (by simp) _).setCell (by simp) _).setCell (by simp) _)⟩)
end B8
end Go.Proofs.Ytbcjhmdkpkmieab
namespace Go.Proofs.Ytbcjhmdkpkmieab
open Go.RowKit
open Go
namespace B8
set_option maxRecDepth 20000 in
set_option maxHeartbeats 2000000 in
theorem rreadE8_ (X Y P Q : Int) (t1 : (P == 9218868437227405312) = true) (t2 : (Q == 18442240474082181120) = true) (hpl : ∀ w : World, Calls Try.prog 39 #[.agg #[.int .u64 X, .int .u64 Y]] w fun e w' => e = .returned (.agg #[.int .u64 P, .int .u64 Q]) ∧ Kp w w') (hv : ∀ w : World, Calls Try.prog 40 #[.agg #[.int .u64 P, .int .u64 Q]] w fun e w' => e = .returned (.bool true) ∧ Kp w w') (w : World) : Calls Try.prog 18 #[.agg #[.int .u64 X, .int .u64 Y, .int .i64 8]] w fun e w' => e = .returned (.agg #[.int .u64 P, .int .u64 Q, .int .i64 4]) ∧ Kp w w' := by
  go_enter Try.func18, Try.ntmps18
  go_upto_region 1 with fail
  have sx : H3c ((w.alloc (.cells #[.int .u64 X, .int .u64 Y, .int .i64 8] 27)).alloc (.cells #[.int .u64 0, .int .u64 0, .int .i64 0] 27)) w.heap.size (.int .u64 X) (.int .u64 Y) (.int .i64 8) := H3c.keep (H3c.new w (.int .u64 X) (.int .u64 Y) (.int .i64 8) 27) ((Kp.refl _).alloc _)
  have sr := H3c.two w #[.int .u64 X, .int .u64 Y, .int .i64 8] (.int .u64 0) (.int .u64 0) (.int .i64 0) 27 27
  have kw : Kp w ((w.alloc (.cells #[.int .u64 X, .int .u64 Y, .int .i64 8] 27)).alloc (.cells #[.int .u64 0, .int .u64 0, .int .i64 0] 27)) := ((Kp.refl w).alloc _).alloc _
  have hsw : w.heap.size + 1 < ((w.alloc (.cells #[.int .u64 X, .int .u64 Y, .int .i64 8] 27)).alloc (.cells #[.int .u64 0, .int .u64 0, .int .i64 0] 27)).heap.size := by simp
  generalize (w.alloc (.cells #[.int .u64 X, .int .u64 Y, .int .i64 8] 27)).alloc (.cells #[.int .u64 0, .int .u64 0, .int .i64 0] 27) = W at sx sr kw hsw ⊢
  obtain ⟨x0, x1, x2, x3, x4, x5⟩ := id sx
  obtain ⟨r0, r1, r2, r3, r4, r5⟩ := id sr
  go_cut [3] (fun s3 wx => ∃ g : Nat, s3 = .pointer (some ⟨g, 0, none⟩) ∧ H3c wx g (.int .u64 P) (.int .u64 Q) (.int .i64 8) ∧ Kp W wx ∧ W.heap.size ≤ g)
  case first =>
    go_region_held3 (fun w' => w'.cell? ⟨w.heap.size, 0, none⟩ = some (.int .u64 X) ∧ w'.cell? ⟨w.heap.size, 1, none⟩ = some (.int .u64 Y) ∧ w'.cell? ⟨w.heap.size, 2, none⟩ = some (.int .i64 8)) (first | (with_reducible exact ⟨x0, x1, x2⟩) | (with_reducible exact ⟨cb0_0, cb0_1, cb0_2⟩) | (refine ⟨(kkeep (W := W) ?_ x0), (kkeep (W := W) ?_ x1), (kkeep (W := W) ?_ x2)⟩ <;> ((repeat (first | with_reducible exact Kp.refl _ | with_reducible apply Kp.drew | with_reducible apply Kp.alloc)); done)) | (refine ⟨(kkeep (W := w1) ?_ cb0_0), (kkeep (W := w1) ?_ cb0_1), (kkeep (W := w1) ?_ cb0_2)⟩ <;> ((repeat (first | with_reducible exact Kp.refl _ | with_reducible apply Kp.drew | with_reducible apply Kp.alloc)); done)) | (refine ⟨?_, ?_, ?_⟩ <;> (refine ((World.cell?_setCell_far _ _ _ _ ?_).trans ((World.cell?_setCell_far _ _ _ _ ?_).trans ((World.cell?_setCell_far _ _ _ _ ?_).trans ?_))) <;> first | assumption | (have h90 := cell_lt x0; have h91 := cell_lt x1; have h92 := cell_lt x2; have h80 := Below.size KB0; first | omega | (simp <;> omega))))) (first | (go_at_call 39; refine (hpl _).mono ?_; rintro e w1 ⟨rfl, g1⟩; have KB0 : Kp W w1 := Kp.trans (by (repeat (first | exact Kp.refl _ | apply Kp.drew | apply Kp.alloc)); done) g1; have cb0_0 := kkeep KB0 x0; have cb0_1 := kkeep KB0 x1; have cb0_2 := kkeep KB0 x2; first | ((with_reducible have hb9 := (H3c.keep (H3c.newD W (.int .u64 0) (.int .u64 0) (.int .i64 0) 27) g1)); obtain ⟨mb0, mb1, mb2, mb3, mb4, mb5⟩ := id hb9) | skip))
    all_goals go_wp2_with fail
    all_goals (
      go_meet
      refine ⟨_, rfl, ?_, ?_, ?_⟩
      · first | (with_reducible exact H3c.put hb9 _ _ _) | (with_reducible exact H3c.put (H3c.new w1 (.int .u64 0) (.int .u64 0) (.int .i64 0) 27) _ _ _) | (with_reducible exact H3c.new w1 _ _ _ 27) | (unfold H3c; simp [go_sem]; done)
      · have h80 := Below.size KB0
        first | (with_reducible exact (Kp.alloc KB0 _)) | ((with_reducible refine (Kp.setCell (Kp.setCell (Kp.setCell KB0 ?_ _) ?_ _) ?_ _)) <;> first | omega | (simp <;> omega)) | ((with_reducible refine (Kp.setCell (Kp.setCell (Kp.setCell (Kp.alloc KB0 _) ?_ _) ?_ _) ?_ _)) <;> first | omega | (simp <;> omega))
      · have h80 := Below.size KB0
        first | exact Nat.le_refl _ | omega | (simp <;> omega))
  case rest =>
  obtain ⟨g3, rfl, q3, gc, hg9⟩ := hcut
  replace kw := Kp.trans kw gc
  replace sx := H3c.keep sx gc
  replace sr := H3c.keep sr gc
  clear x0 x1 x2 x3 x4 x5 r0 r1 r2 r3 r4 r5
  obtain ⟨x0, x1, x2, x3, x4, x5⟩ := id sx
  obtain ⟨r0, r1, r2, r3, r4, r5⟩ := id sr
  obtain ⟨y0, y1, y2, y3, y4, y5⟩ := id q3
  have hne : g3 ≠ w.heap.size + 1 := by omega
  have hne2 : w.heap.size + 1 ≠ g3 := by omega
  have hwg : w.heap.size ≤ g3 := by omega
  clear hg9 hsw
  go_upto_region 4 with (first | (go_at_call 40; refine (hv _).mono ?_; rintro e w2 ⟨rfl, g2⟩; replace kw := Kp.trans kw g2; replace sx := H3c.keep sx g2; replace sr := H3c.keep sr g2; replace q3 := H3c.keep q3 g2; clear x0 x1 x2 x3 x4 x5 r0 r1 r2 r3 r4 r5 y0 y1 y2 y3 y4 y5; obtain ⟨x0, x1, x2, x3, x4, x5⟩ := id sx; obtain ⟨r0, r1, r2, r3, r4, r5⟩ := id sr; obtain ⟨y0, y1, y2, y3, y4, y5⟩ := id q3))
  refine Fq.wp_region_grow (by kernel_rfl) (by kernel_rfl) (fun ι _ G hG hall => ?_)
  have cc0 : ∀ n, (G n).cell? ⟨g3, 0, none⟩ = some (.int .u64 P) := fun n => Fq.gkeep (hG n) y0
  have cc1 : ∀ n, (G n).cell? ⟨g3, 1, none⟩ = some (.int .u64 Q) := fun n => Fq.gkeep (hG n) y1
  have cc2 : ∀ n, (G n).cell? ⟨g3, 2, none⟩ = some (.int .i64 8) := fun n => Fq.gkeep (hG n) y2
  repeat (go_big_quiet_step (first | (go_at_call 36; exact (rempty9_ _).mono (fun e w' h => ⟨h.1, hall _ (Fq.gtrans (hG _) h.2)⟩))))
  refine wpQuiet_nil ?_
  rintro _ ⟨nq, rfl⟩
  have gq : Kp w2 (G nq) := hG nq
  clear cc0 cc1 cc2 hall hG
  replace kw := Kp.trans kw gq
  replace sx := H3c.keep sx gq
  replace sr := H3c.keep sr gq
  replace q3 := H3c.keep q3 gq
  clear x0 x1 x2 x3 x4 x5 r0 r1 r2 r3 r4 r5 y0 y1 y2 y3 y4 y5
  obtain ⟨x0, x1, x2, x3, x4, x5⟩ := id sx
  obtain ⟨r0, r1, r2, r3, r4, r5⟩ := id sr
  obtain ⟨y0, y1, y2, y3, y4, y5⟩ := id q3
  go_wp2
  exact bodyPost_ret (v := .agg #[.int .u64 P, .int .u64 Q, .int .i64 4]) (by simp [results, Try.results18, go_sem, r0, r1, r2]) rfl ⟨rfl, ((((kw.setCell hwg _).setCell (by simp) _).setCell (by simp) _).setCell (by simp) _)⟩
set_option maxRecDepth 20000 in
set_option maxHeartbeats 2000000 in
theorem rreadS8_ (X Y P Q : Int) (E1 E2 : Bool) (t1 : (P == 9218868437227405312) = E1) (t2 : (Q == 18442240474082181120) = E2) (u : (E1 && E2) = false) (hpl : ∀ w : World, Calls Try.prog 39 #[.agg #[.int .u64 X, .int .u64 Y]] w fun e w' => e = .returned (.agg #[.int .u64 P, .int .u64 Q]) ∧ Kp w w') (hv : ∀ w : World, Calls Try.prog 40 #[.agg #[.int .u64 P, .int .u64 Q]] w fun e w' => e = .returned (.bool true) ∧ Kp w w')  (w : World) : Calls Try.prog 18 #[.agg #[.int .u64 X, .int .u64 Y, .int .i64 8]] w fun e w' => e = .returned (.agg #[.int .u64 P, .int .u64 Q, .int .i64 8]) ∧ Kp w w' := by
  cases E1 <;> cases E2
  case true.true => cases u
  all_goals (
    clear u
    go_enter Try.func18, Try.ntmps18
    go_upto_region 1 with fail
    have sx : H3c ((w.alloc (.cells #[.int .u64 X, .int .u64 Y, .int .i64 8] 27)).alloc (.cells #[.int .u64 0, .int .u64 0, .int .i64 0] 27)) w.heap.size (.int .u64 X) (.int .u64 Y) (.int .i64 8) := H3c.keep (H3c.new w (.int .u64 X) (.int .u64 Y) (.int .i64 8) 27) ((Kp.refl _).alloc _)
    have sr := H3c.two w #[.int .u64 X, .int .u64 Y, .int .i64 8] (.int .u64 0) (.int .u64 0) (.int .i64 0) 27 27
    have kw : Kp w ((w.alloc (.cells #[.int .u64 X, .int .u64 Y, .int .i64 8] 27)).alloc (.cells #[.int .u64 0, .int .u64 0, .int .i64 0] 27)) := ((Kp.refl w).alloc _).alloc _
    have hsw : w.heap.size + 1 < ((w.alloc (.cells #[.int .u64 X, .int .u64 Y, .int .i64 8] 27)).alloc (.cells #[.int .u64 0, .int .u64 0, .int .i64 0] 27)).heap.size := by simp
    generalize (w.alloc (.cells #[.int .u64 X, .int .u64 Y, .int .i64 8] 27)).alloc (.cells #[.int .u64 0, .int .u64 0, .int .i64 0] 27) = W at sx sr kw hsw ⊢
    obtain ⟨x0, x1, x2, x3, x4, x5⟩ := id sx
    obtain ⟨r0, r1, r2, r3, r4, r5⟩ := id sr
    go_cut [3] (fun s3 wx => ∃ g : Nat, s3 = .pointer (some ⟨g, 0, none⟩) ∧ H3c wx g (.int .u64 P) (.int .u64 Q) (.int .i64 8) ∧ Kp W wx ∧ W.heap.size ≤ g)
    case first =>
      go_region_held3 (fun w' => w'.cell? ⟨w.heap.size, 0, none⟩ = some (.int .u64 X) ∧ w'.cell? ⟨w.heap.size, 1, none⟩ = some (.int .u64 Y) ∧ w'.cell? ⟨w.heap.size, 2, none⟩ = some (.int .i64 8)) (first | (with_reducible exact ⟨x0, x1, x2⟩) | (with_reducible exact ⟨cb0_0, cb0_1, cb0_2⟩) | (refine ⟨(kkeep (W := W) ?_ x0), (kkeep (W := W) ?_ x1), (kkeep (W := W) ?_ x2)⟩ <;> ((repeat (first | with_reducible exact Kp.refl _ | with_reducible apply Kp.drew | with_reducible apply Kp.alloc)); done)) | (refine ⟨(kkeep (W := w1) ?_ cb0_0), (kkeep (W := w1) ?_ cb0_1), (kkeep (W := w1) ?_ cb0_2)⟩ <;> ((repeat (first | with_reducible exact Kp.refl _ | with_reducible apply Kp.drew | with_reducible apply Kp.alloc)); done)) | (refine ⟨?_, ?_, ?_⟩ <;> (refine ((World.cell?_setCell_far _ _ _ _ ?_).trans ((World.cell?_setCell_far _ _ _ _ ?_).trans ((World.cell?_setCell_far _ _ _ _ ?_).trans ?_))) <;> first | assumption | (have h90 := cell_lt x0; have h91 := cell_lt x1; have h92 := cell_lt x2; have h80 := Below.size KB0; first | omega | (simp <;> omega))))) (first | (go_at_call 39; refine (hpl _).mono ?_; rintro e w1 ⟨rfl, g1⟩; have KB0 : Kp W w1 := Kp.trans (by (repeat (first | exact Kp.refl _ | apply Kp.drew | apply Kp.alloc)); done) g1; have cb0_0 := kkeep KB0 x0; have cb0_1 := kkeep KB0 x1; have cb0_2 := kkeep KB0 x2; first | ((with_reducible have hb9 := (H3c.keep (H3c.newD W (.int .u64 0) (.int .u64 0) (.int .i64 0) 27) g1)); obtain ⟨mb0, mb1, mb2, mb3, mb4, mb5⟩ := id hb9) | skip))
      all_goals go_wp2_with fail
      all_goals (
        go_meet
        refine ⟨_, rfl, ?_, ?_, ?_⟩
        · first | (with_reducible exact H3c.put hb9 _ _ _) | (with_reducible exact H3c.put (H3c.new w1 (.int .u64 0) (.int .u64 0) (.int .i64 0) 27) _ _ _) | (with_reducible exact H3c.new w1 _ _ _ 27) | (unfold H3c; simp [go_sem]; done)
        · have h80 := Below.size KB0
          first | (with_reducible exact (Kp.alloc KB0 _)) | ((with_reducible refine (Kp.setCell (Kp.setCell (Kp.setCell KB0 ?_ _) ?_ _) ?_ _)) <;> first | omega | (simp <;> omega)) | ((with_reducible refine (Kp.setCell (Kp.setCell (Kp.setCell (Kp.alloc KB0 _) ?_ _) ?_ _) ?_ _)) <;> first | omega | (simp <;> omega))
        · have h80 := Below.size KB0
          first | exact Nat.le_refl _ | omega | (simp <;> omega))
    case rest =>
    obtain ⟨g3, rfl, q3, gc, hg9⟩ := hcut
    replace kw := Kp.trans kw gc
    replace sx := H3c.keep sx gc
    replace sr := H3c.keep sr gc
    clear x0 x1 x2 x3 x4 x5 r0 r1 r2 r3 r4 r5
    obtain ⟨x0, x1, x2, x3, x4, x5⟩ := id sx
    obtain ⟨r0, r1, r2, r3, r4, r5⟩ := id sr
    obtain ⟨y0, y1, y2, y3, y4, y5⟩ := id q3
    have hne : g3 ≠ w.heap.size + 1 := by omega
    have hne2 : w.heap.size + 1 ≠ g3 := by omega
    have hwg : w.heap.size ≤ g3 := by omega
    clear hg9 hsw
    go_upto_region 4 with (first | (go_at_call 40; refine (hv _).mono ?_; rintro e w2 ⟨rfl, g2⟩; replace kw := Kp.trans kw g2; replace sx := H3c.keep sx g2; replace sr := H3c.keep sr g2; replace q3 := H3c.keep q3 g2; clear x0 x1 x2 x3 x4 x5 r0 r1 r2 r3 r4 r5 y0 y1 y2 y3 y4 y5; obtain ⟨x0, x1, x2, x3, x4, x5⟩ := id sx; obtain ⟨r0, r1, r2, r3, r4, r5⟩ := id sr; obtain ⟨y0, y1, y2, y3, y4, y5⟩ := id q3))
    refine Fq.wp_region_grow (by kernel_rfl) (by kernel_rfl) (fun ι _ G hG hall => ?_)
    have cc0 : ∀ n, (G n).cell? ⟨g3, 0, none⟩ = some (.int .u64 P) := fun n => Fq.gkeep (hG n) y0
    have cc1 : ∀ n, (G n).cell? ⟨g3, 1, none⟩ = some (.int .u64 Q) := fun n => Fq.gkeep (hG n) y1
    have cc2 : ∀ n, (G n).cell? ⟨g3, 2, none⟩ = some (.int .i64 8) := fun n => Fq.gkeep (hG n) y2
    repeat (go_big_quiet_step (first | (go_at_call 36; exact (rempty9_ _).mono (fun e w' h => ⟨h.1, hall _ (Fq.gtrans (hG _) h.2)⟩))))
    refine wpQuiet_nil ?_
    rintro _ ⟨nq, rfl⟩
    have gq : Kp w2 (G nq) := hG nq
    clear cc0 cc1 cc2 hall hG
    replace kw := Kp.trans kw gq
    replace sx := H3c.keep sx gq
    replace sr := H3c.keep sr gq
    replace q3 := H3c.keep q3 gq
    clear x0 x1 x2 x3 x4 x5 r0 r1 r2 r3 r4 r5 y0 y1 y2 y3 y4 y5
    obtain ⟨x0, x1, x2, x3, x4, x5⟩ := id sx
    obtain ⟨r0, r1, r2, r3, r4, r5⟩ := id sr
    obtain ⟨y0, y1, y2, y3, y4, y5⟩ := id q3
    go_wp2
    exact bodyPost_ret (v := .agg #[.int .u64 P, .int .u64 Q, .int .i64 8]) (by simp [results, Try.results18, go_sem, r0, r1, r2]) rfl ⟨rfl, (((kw.setCell (by simp) _).setCell (by simp) _).setCell (by simp) _)⟩)
end B8
end Go.Proofs.Ytbcjhmdkpkmieab
namespace Go.Proofs.Ytbcjhmdkpkmieab
open Go.RowKit
open Go
namespace B8
set_option maxRecDepth 20000 in
set_option maxHeartbeats 2000000 in
theorem rreadE12_ (X Y P Q : Int) (t1 : (P == 9218868437227405312) = true) (t2 : (Q == 18442240474082181120) = true) (hpl : ∀ w : World, Calls Try.prog 39 #[.agg #[.int .u64 X, .int .u64 Y]] w fun e w' => e = .returned (.agg #[.int .u64 P, .int .u64 Q]) ∧ Kp w w') (hv : ∀ w : World, Calls Try.prog 40 #[.agg #[.int .u64 P, .int .u64 Q]] w fun e w' => e = .returned (.bool true) ∧ Kp w w') (w : World) : Calls Try.prog 18 #[.agg #[.int .u64 X, .int .u64 Y, .int .i64 12]] w fun e w' => e = .returned (.agg #[.int .u64 P, .int .u64 Q, .int .i64 4]) ∧ Kp w w' := by
  go_enter Try.func18, Try.ntmps18
  go_upto_region 1 with fail
  have sx : H3c ((w.alloc (.cells #[.int .u64 X, .int .u64 Y, .int .i64 12] 27)).alloc (.cells #[.int .u64 0, .int .u64 0, .int .i64 0] 27)) w.heap.size (.int .u64 X) (.int .u64 Y) (.int .i64 12) := H3c.keep (H3c.new w (.int .u64 X) (.int .u64 Y) (.int .i64 12) 27) ((Kp.refl _).alloc _)
  have sr := H3c.two w #[.int .u64 X, .int .u64 Y, .int .i64 12] (.int .u64 0) (.int .u64 0) (.int .i64 0) 27 27
  have kw : Kp w ((w.alloc (.cells #[.int .u64 X, .int .u64 Y, .int .i64 12] 27)).alloc (.cells #[.int .u64 0, .int .u64 0, .int .i64 0] 27)) := ((Kp.refl w).alloc _).alloc _
  have hsw : w.heap.size + 1 < ((w.alloc (.cells #[.int .u64 X, .int .u64 Y, .int .i64 12] 27)).alloc (.cells #[.int .u64 0, .int .u64 0, .int .i64 0] 27)).heap.size := by simp
  generalize (w.alloc (.cells #[.int .u64 X, .int .u64 Y, .int .i64 12] 27)).alloc (.cells #[.int .u64 0, .int .u64 0, .int .i64 0] 27) = W at sx sr kw hsw ⊢
  obtain ⟨x0, x1, x2, x3, x4, x5⟩ := id sx
  obtain ⟨r0, r1, r2, r3, r4, r5⟩ := id sr
  go_cut [3] (fun s3 wx => ∃ g : Nat, s3 = .pointer (some ⟨g, 0, none⟩) ∧ H3c wx g (.int .u64 P) (.int .u64 Q) (.int .i64 12) ∧ Kp W wx ∧ W.heap.size ≤ g)
  case first =>
    go_region_held3 (fun w' => w'.cell? ⟨w.heap.size, 0, none⟩ = some (.int .u64 X) ∧ w'.cell? ⟨w.heap.size, 1, none⟩ = some (.int .u64 Y) ∧ w'.cell? ⟨w.heap.size, 2, none⟩ = some (.int .i64 12)) (first | (with_reducible exact ⟨x0, x1, x2⟩) | (with_reducible exact ⟨cb0_0, cb0_1, cb0_2⟩) | (refine ⟨(kkeep (W := W) ?_ x0), (kkeep (W := W) ?_ x1), (kkeep (W := W) ?_ x2)⟩ <;> ((repeat (first | with_reducible exact Kp.refl _ | with_reducible apply Kp.drew | with_reducible apply Kp.alloc)); done)) | (refine ⟨(kkeep (W := w1) ?_ cb0_0), (kkeep (W := w1) ?_ cb0_1), (kkeep (W := w1) ?_ cb0_2)⟩ <;> ((repeat (first | with_reducible exact Kp.refl _ | with_reducible apply Kp.drew | with_reducible apply Kp.alloc)); done)) | (refine ⟨?_, ?_, ?_⟩ <;> (refine ((World.cell?_setCell_far _ _ _ _ ?_).trans ((World.cell?_setCell_far _ _ _ _ ?_).trans ((World.cell?_setCell_far _ _ _ _ ?_).trans ?_))) <;> first | assumption | (have h90 := cell_lt x0; have h91 := cell_lt x1; have h92 := cell_lt x2; have h80 := Below.size KB0; first | omega | (simp <;> omega))))) (first | (go_at_call 39; refine (hpl _).mono ?_; rintro e w1 ⟨rfl, g1⟩; have KB0 : Kp W w1 := Kp.trans (by (repeat (first | exact Kp.refl _ | apply Kp.drew | apply Kp.alloc)); done) g1; have cb0_0 := kkeep KB0 x0; have cb0_1 := kkeep KB0 x1; have cb0_2 := kkeep KB0 x2; first | ((with_reducible have hb9 := (H3c.keep (H3c.newD W (.int .u64 0) (.int .u64 0) (.int .i64 0) 27) g1)); obtain ⟨mb0, mb1, mb2, mb3, mb4, mb5⟩ := id hb9) | skip))
    all_goals go_wp2_with fail
    all_goals (
      go_meet
      refine ⟨_, rfl, ?_, ?_, ?_⟩
      · first | (with_reducible exact H3c.put hb9 _ _ _) | (with_reducible exact H3c.put (H3c.new w1 (.int .u64 0) (.int .u64 0) (.int .i64 0) 27) _ _ _) | (with_reducible exact H3c.new w1 _ _ _ 27) | (unfold H3c; simp [go_sem]; done)
      · have h80 := Below.size KB0
        first | (with_reducible exact (Kp.alloc KB0 _)) | ((with_reducible refine (Kp.setCell (Kp.setCell (Kp.setCell KB0 ?_ _) ?_ _) ?_ _)) <;> first | omega | (simp <;> omega)) | ((with_reducible refine (Kp.setCell (Kp.setCell (Kp.setCell (Kp.alloc KB0 _) ?_ _) ?_ _) ?_ _)) <;> first | omega | (simp <;> omega))
      · have h80 := Below.size KB0
        first | exact Nat.le_refl _ | omega | (simp <;> omega))
  case rest =>
  obtain ⟨g3, rfl, q3, gc, hg9⟩ := hcut
  replace kw := Kp.trans kw gc
  replace sx := H3c.keep sx gc
  replace sr := H3c.keep sr gc
  clear x0 x1 x2 x3 x4 x5 r0 r1 r2 r3 r4 r5
  obtain ⟨x0, x1, x2, x3, x4, x5⟩ := id sx
  obtain ⟨r0, r1, r2, r3, r4, r5⟩ := id sr
  obtain ⟨y0, y1, y2, y3, y4, y5⟩ := id q3
  have hne : g3 ≠ w.heap.size + 1 := by omega
  have hne2 : w.heap.size + 1 ≠ g3 := by omega
  have hwg : w.heap.size ≤ g3 := by omega
  clear hg9 hsw
  go_upto_region 4 with (first | (go_at_call 40; refine (hv _).mono ?_; rintro e w2 ⟨rfl, g2⟩; replace kw := Kp.trans kw g2; replace sx := H3c.keep sx g2; replace sr := H3c.keep sr g2; replace q3 := H3c.keep q3 g2; clear x0 x1 x2 x3 x4 x5 r0 r1 r2 r3 r4 r5 y0 y1 y2 y3 y4 y5; obtain ⟨x0, x1, x2, x3, x4, x5⟩ := id sx; obtain ⟨r0, r1, r2, r3, r4, r5⟩ := id sr; obtain ⟨y0, y1, y2, y3, y4, y5⟩ := id q3))
  refine Fq.wp_region_grow (by kernel_rfl) (by kernel_rfl) (fun ι _ G hG hall => ?_)
  have cc0 : ∀ n, (G n).cell? ⟨g3, 0, none⟩ = some (.int .u64 P) := fun n => Fq.gkeep (hG n) y0
  have cc1 : ∀ n, (G n).cell? ⟨g3, 1, none⟩ = some (.int .u64 Q) := fun n => Fq.gkeep (hG n) y1
  have cc2 : ∀ n, (G n).cell? ⟨g3, 2, none⟩ = some (.int .i64 12) := fun n => Fq.gkeep (hG n) y2
  repeat (go_big_quiet_step (first | (go_at_call 36; exact (rempty9_ _).mono (fun e w' h => ⟨h.1, hall _ (Fq.gtrans (hG _) h.2)⟩))))
  refine wpQuiet_nil ?_
  rintro _ ⟨nq, rfl⟩
  have gq : Kp w2 (G nq) := hG nq
  clear cc0 cc1 cc2 hall hG
  replace kw := Kp.trans kw gq
  replace sx := H3c.keep sx gq
  replace sr := H3c.keep sr gq
  replace q3 := H3c.keep q3 gq
  clear x0 x1 x2 x3 x4 x5 r0 r1 r2 r3 r4 r5 y0 y1 y2 y3 y4 y5
  obtain ⟨x0, x1, x2, x3, x4, x5⟩ := id sx
  obtain ⟨r0, r1, r2, r3, r4, r5⟩ := id sr
  obtain ⟨y0, y1, y2, y3, y4, y5⟩ := id q3
  go_wp2
  exact bodyPost_ret (v := .agg #[.int .u64 P, .int .u64 Q, .int .i64 4]) (by simp [results, Try.results18, go_sem, r0, r1, r2]) rfl ⟨rfl, ((((kw.setCell hwg _).setCell (by simp) _).setCell (by simp) _).setCell (by simp) _)⟩
set_option maxRecDepth 20000 in
set_option maxHeartbeats 2000000 in
theorem rreadS12_ (X Y P Q : Int) (E1 E2 : Bool) (t1 : (P == 9218868437227405312) = E1) (t2 : (Q == 18442240474082181120) = E2) (u : (E1 && E2) = false) (hpl : ∀ w : World, Calls Try.prog 39 #[.agg #[.int .u64 X, .int .u64 Y]] w fun e w' => e = .returned (.agg #[.int .u64 P, .int .u64 Q]) ∧ Kp w w') (hv : ∀ w : World, Calls Try.prog 40 #[.agg #[.int .u64 P, .int .u64 Q]] w fun e w' => e = .returned (.bool true) ∧ Kp w w')  (w : World) : Calls Try.prog 18 #[.agg #[.int .u64 X, .int .u64 Y, .int .i64 12]] w fun e w' => e = .returned (.agg #[.int .u64 P, .int .u64 Q, .int .i64 12]) ∧ Kp w w' := by
  cases E1 <;> cases E2
  case true.true => cases u
  all_goals (
    clear u
    go_enter Try.func18, Try.ntmps18
    go_upto_region 1 with fail
    have sx : H3c ((w.alloc (.cells #[.int .u64 X, .int .u64 Y, .int .i64 12] 27)).alloc (.cells #[.int .u64 0, .int .u64 0, .int .i64 0] 27)) w.heap.size (.int .u64 X) (.int .u64 Y) (.int .i64 12) := H3c.keep (H3c.new w (.int .u64 X) (.int .u64 Y) (.int .i64 12) 27) ((Kp.refl _).alloc _)
    have sr := H3c.two w #[.int .u64 X, .int .u64 Y, .int .i64 12] (.int .u64 0) (.int .u64 0) (.int .i64 0) 27 27
    have kw : Kp w ((w.alloc (.cells #[.int .u64 X, .int .u64 Y, .int .i64 12] 27)).alloc (.cells #[.int .u64 0, .int .u64 0, .int .i64 0] 27)) := ((Kp.refl w).alloc _).alloc _
    have hsw : w.heap.size + 1 < ((w.alloc (.cells #[.int .u64 X, .int .u64 Y, .int .i64 12] 27)).alloc (.cells #[.int .u64 0, .int .u64 0, .int .i64 0] 27)).heap.size := by simp
    generalize (w.alloc (.cells #[.int .u64 X, .int .u64 Y, .int .i64 12] 27)).alloc (.cells #[.int .u64 0, .int .u64 0, .int .i64 0] 27) = W at sx sr kw hsw ⊢
    obtain ⟨x0, x1, x2, x3, x4, x5⟩ := id sx
    obtain ⟨r0, r1, r2, r3, r4, r5⟩ := id sr
    go_cut [3] (fun s3 wx => ∃ g : Nat, s3 = .pointer (some ⟨g, 0, none⟩) ∧ H3c wx g (.int .u64 P) (.int .u64 Q) (.int .i64 12) ∧ Kp W wx ∧ W.heap.size ≤ g)
    case first =>
      go_region_held3 (fun w' => w'.cell? ⟨w.heap.size, 0, none⟩ = some (.int .u64 X) ∧ w'.cell? ⟨w.heap.size, 1, none⟩ = some (.int .u64 Y) ∧ w'.cell? ⟨w.heap.size, 2, none⟩ = some (.int .i64 12)) (first | (with_reducible exact ⟨x0, x1, x2⟩) | (with_reducible exact ⟨cb0_0, cb0_1, cb0_2⟩) | (refine ⟨(kkeep (W := W) ?_ x0), (kkeep (W := W) ?_ x1), (kkeep (W := W) ?_ x2)⟩ <;> ((repeat (first | with_reducible exact Kp.refl _ | with_reducible apply Kp.drew | with_reducible apply Kp.alloc)); done)) | (refine ⟨(kkeep (W := w1) ?_ cb0_0), (kkeep (W := w1) ?_ cb0_1), (kkeep (W := w1) ?_ cb0_2)⟩ <;> ((repeat (first | with_reducible exact Kp.refl _ | with_reducible apply Kp.drew | with_reducible apply Kp.alloc)); done)) | (refine ⟨?_, ?_, ?_⟩ <;> (refine ((World.cell?_setCell_far _ _ _ _ ?_).trans ((World.cell?_setCell_far _ _ _ _ ?_).trans ((World.cell?_setCell_far _ _ _ _ ?_).trans ?_))) <;> first | assumption | (have h90 := cell_lt x0; have h91 := cell_lt x1; have h92 := cell_lt x2; have h80 := Below.size KB0; first | omega | (simp <;> omega))))) (first | (go_at_call 39; refine (hpl _).mono ?_; rintro e w1 ⟨rfl, g1⟩; have KB0 : Kp W w1 := Kp.trans (by (repeat (first | exact Kp.refl _ | apply Kp.drew | apply Kp.alloc)); done) g1; have cb0_0 := kkeep KB0 x0; have cb0_1 := kkeep KB0 x1; have cb0_2 := kkeep KB0 x2; first | ((with_reducible have hb9 := (H3c.keep (H3c.newD W (.int .u64 0) (.int .u64 0) (.int .i64 0) 27) g1)); obtain ⟨mb0, mb1, mb2, mb3, mb4, mb5⟩ := id hb9) | skip))
      all_goals go_wp2_with fail
      all_goals (
        go_meet
        refine ⟨_, rfl, ?_, ?_, ?_⟩
        · first | (with_reducible exact H3c.put hb9 _ _ _) | (with_reducible exact H3c.put (H3c.new w1 (.int .u64 0) (.int .u64 0) (.int .i64 0) 27) _ _ _) | (with_reducible exact H3c.new w1 _ _ _ 27) | (unfold H3c; simp [go_sem]; done)
        · have h80 := Below.size KB0
          first | (with_reducible exact (Kp.alloc KB0 _)) | ((with_reducible refine (Kp.setCell (Kp.setCell (Kp.setCell KB0 ?_ _) ?_ _) ?_ _)) <;> first | omega | (simp <;> omega)) | ((with_reducible refine (Kp.setCell (Kp.setCell (Kp.setCell (Kp.alloc KB0 _) ?_ _) ?_ _) ?_ _)) <;> first | omega | (simp <;> omega))
        · have h80 := Below.size KB0
          first | exact Nat.le_refl _ | omega | (simp <;> omega))
    case rest =>
    obtain ⟨g3, rfl, q3, gc, hg9⟩ := hcut
    replace kw := Kp.trans kw gc
    replace sx := H3c.keep sx gc
    replace sr := H3c.keep sr gc
    clear x0 x1 x2 x3 x4 x5 r0 r1 r2 r3 r4 r5
    obtain ⟨x0, x1, x2, x3, x4, x5⟩ := id sx
    obtain ⟨r0, r1, r2, r3, r4, r5⟩ := id sr
    obtain ⟨y0, y1, y2, y3, y4, y5⟩ := id q3
    have hne : g3 ≠ w.heap.size + 1 := by omega
    have hne2 : w.heap.size + 1 ≠ g3 := by omega
    have hwg : w.heap.size ≤ g3 := by omega
    clear hg9 hsw
    go_upto_region 4 with (first | (go_at_call 40; refine (hv _).mono ?_; rintro e w2 ⟨rfl, g2⟩; replace kw := Kp.trans kw g2; replace sx := H3c.keep sx g2; replace sr := H3c.keep sr g2; replace q3 := H3c.keep q3 g2; clear x0 x1 x2 x3 x4 x5 r0 r1 r2 r3 r4 r5 y0 y1 y2 y3 y4 y5; obtain ⟨x0, x1, x2, x3, x4, x5⟩ := id sx; obtain ⟨r0, r1, r2, r3, r4, r5⟩ := id sr; obtain ⟨y0, y1, y2, y3, y4, y5⟩ := id q3))
    refine Fq.wp_region_grow (by kernel_rfl) (by kernel_rfl) (fun ι _ G hG hall => ?_)
    have cc0 : ∀ n, (G n).cell? ⟨g3, 0, none⟩ = some (.int .u64 P) := fun n => Fq.gkeep (hG n) y0
    have cc1 : ∀ n, (G n).cell? ⟨g3, 1, none⟩ = some (.int .u64 Q) := fun n => Fq.gkeep (hG n) y1
    have cc2 : ∀ n, (G n).cell? ⟨g3, 2, none⟩ = some (.int .i64 12) := fun n => Fq.gkeep (hG n) y2
    repeat (go_big_quiet_step (first | (go_at_call 36; exact (rempty9_ _).mono (fun e w' h => ⟨h.1, hall _ (Fq.gtrans (hG _) h.2)⟩))))
    refine wpQuiet_nil ?_
    rintro _ ⟨nq, rfl⟩
    have gq : Kp w2 (G nq) := hG nq
    clear cc0 cc1 cc2 hall hG
    replace kw := Kp.trans kw gq
    replace sx := H3c.keep sx gq
    replace sr := H3c.keep sr gq
    replace q3 := H3c.keep q3 gq
    clear x0 x1 x2 x3 x4 x5 r0 r1 r2 r3 r4 r5 y0 y1 y2 y3 y4 y5
    obtain ⟨x0, x1, x2, x3, x4, x5⟩ := id sx
    obtain ⟨r0, r1, r2, r3, r4, r5⟩ := id sr
    obtain ⟨y0, y1, y2, y3, y4, y5⟩ := id q3
    go_wp2
    exact bodyPost_ret (v := .agg #[.int .u64 P, .int .u64 Q, .int .i64 12]) (by simp [results, Try.results18, go_sem, r0, r1, r2]) rfl ⟨rfl, (((kw.setCell (by simp) _).setCell (by simp) _).setCell (by simp) _)⟩)
end B8
end Go.Proofs.Ytbcjhmdkpkmieab
namespace Go.Proofs.Ytbcjhmdkpkmieab
open Go.RowKit
open Go
namespace B8
set_option maxRecDepth 20000 in
set_option maxHeartbeats 2000000 in
theorem rreadE16_ (X Y P Q : Int) (t1 : (P == 9218868437227405312) = true) (t2 : (Q == 18442240474082181120) = true) (hpl : ∀ w : World, Calls Try.prog 39 #[.agg #[.int .u64 X, .int .u64 Y]] w fun e w' => e = .returned (.agg #[.int .u64 P, .int .u64 Q]) ∧ Kp w w') (hv : ∀ w : World, Calls Try.prog 40 #[.agg #[.int .u64 P, .int .u64 Q]] w fun e w' => e = .returned (.bool true) ∧ Kp w w') (w : World) : Calls Try.prog 18 #[.agg #[.int .u64 X, .int .u64 Y, .int .i64 16]] w fun e w' => e = .returned (.agg #[.int .u64 P, .int .u64 Q, .int .i64 4]) ∧ Kp w w' := by
  go_enter Try.func18, Try.ntmps18
  go_upto_region 1 with fail
  have sx : H3c ((w.alloc (.cells #[.int .u64 X, .int .u64 Y, .int .i64 16] 27)).alloc (.cells #[.int .u64 0, .int .u64 0, .int .i64 0] 27)) w.heap.size (.int .u64 X) (.int .u64 Y) (.int .i64 16) := H3c.keep (H3c.new w (.int .u64 X) (.int .u64 Y) (.int .i64 16) 27) ((Kp.refl _).alloc _)
  have sr := H3c.two w #[.int .u64 X, .int .u64 Y, .int .i64 16] (.int .u64 0) (.int .u64 0) (.int .i64 0) 27 27
  have kw : Kp w ((w.alloc (.cells #[.int .u64 X, .int .u64 Y, .int .i64 16] 27)).alloc (.cells #[.int .u64 0, .int .u64 0, .int .i64 0] 27)) := ((Kp.refl w).alloc _).alloc _
  have hsw : w.heap.size + 1 < ((w.alloc (.cells #[.int .u64 X, .int .u64 Y, .int .i64 16] 27)).alloc (.cells #[.int .u64 0, .int .u64 0, .int .i64 0] 27)).heap.size := by simp
  generalize (w.alloc (.cells #[.int .u64 X, .int .u64 Y, .int .i64 16] 27)).alloc (.cells #[.int .u64 0, .int .u64 0, .int .i64 0] 27) = W at sx sr kw hsw ⊢
  obtain ⟨x0, x1, x2, x3, x4, x5⟩ := id sx
  obtain ⟨r0, r1, r2, r3, r4, r5⟩ := id sr
  go_cut [3] (fun s3 wx => ∃ g : Nat, s3 = .pointer (some ⟨g, 0, none⟩) ∧ H3c wx g (.int .u64 P) (.int .u64 Q) (.int .i64 16) ∧ Kp W wx ∧ W.heap.size ≤ g)
  case first =>
    go_region_held3 (fun w' => w'.cell? ⟨w.heap.size, 0, none⟩ = some (.int .u64 X) ∧ w'.cell? ⟨w.heap.size, 1, none⟩ = some (.int .u64 Y) ∧ w'.cell? ⟨w.heap.size, 2, none⟩ = some (.int .i64 16)) (first | (with_reducible exact ⟨x0, x1, x2⟩) | (with_reducible exact ⟨cb0_0, cb0_1, cb0_2⟩) | (refine ⟨(kkeep (W := W) ?_ x0), (kkeep (W := W) ?_ x1), (kkeep (W := W) ?_ x2)⟩ <;> ((repeat (first | with_reducible exact Kp.refl _ | with_reducible apply Kp.drew | with_reducible apply Kp.alloc)); done)) | (refine ⟨(kkeep (W := w1) ?_ cb0_0), (kkeep (W := w1) ?_ cb0_1), (kkeep (W := w1) ?_ cb0_2)⟩ <;> ((repeat (first | with_reducible exact Kp.refl _ | with_reducible apply Kp.drew | with_reducible apply Kp.alloc)); done)) | (refine ⟨?_, ?_, ?_⟩ <;> (refine ((World.cell?_setCell_far _ _ _ _ ?_).trans ((World.cell?_setCell_far _ _ _ _ ?_).trans ((World.cell?_setCell_far _ _ _ _ ?_).trans ?_))) <;> first | assumption | (have h90 := cell_lt x0; have h91 := cell_lt x1; have h92 := cell_lt x2; have h80 := Below.size KB0; first | omega | (simp <;> omega))))) (first | (go_at_call 39; refine (hpl _).mono ?_; rintro e w1 ⟨rfl, g1⟩; have KB0 : Kp W w1 := Kp.trans (by (repeat (first | exact Kp.refl _ | apply Kp.drew | apply Kp.alloc)); done) g1; have cb0_0 := kkeep KB0 x0; have cb0_1 := kkeep KB0 x1; have cb0_2 := kkeep KB0 x2; first | ((with_reducible have hb9 := (H3c.keep (H3c.newD W (.int .u64 0) (.int .u64 0) (.int .i64 0) 27) g1)); obtain ⟨mb0, mb1, mb2, mb3, mb4, mb5⟩ := id hb9) | skip))
    all_goals go_wp2_with fail
    all_goals (
      go_meet
      refine ⟨_, rfl, ?_, ?_, ?_⟩
      · first | (with_reducible exact H3c.put hb9 _ _ _) | (with_reducible exact H3c.put (H3c.new w1 (.int .u64 0) (.int .u64 0) (.int .i64 0) 27) _ _ _) | (with_reducible exact H3c.new w1 _ _ _ 27) | (unfold H3c; simp [go_sem]; done)
      · have h80 := Below.size KB0
        first | (with_reducible exact (Kp.alloc KB0 _)) | ((with_reducible refine (Kp.setCell (Kp.setCell (Kp.setCell KB0 ?_ _) ?_ _) ?_ _)) <;> first | omega | (simp <;> omega)) | ((with_reducible refine (Kp.setCell (Kp.setCell (Kp.setCell (Kp.alloc KB0 _) ?_ _) ?_ _) ?_ _)) <;> first | omega | (simp <;> omega))
      · have h80 := Below.size KB0
        first | exact Nat.le_refl _ | omega | (simp <;> omega))
  case rest =>
  obtain ⟨g3, rfl, q3, gc, hg9⟩ := hcut
  replace kw := Kp.trans kw gc
  replace sx := H3c.keep sx gc
  replace sr := H3c.keep sr gc
  clear x0 x1 x2 x3 x4 x5 r0 r1 r2 r3 r4 r5
  obtain ⟨x0, x1, x2, x3, x4, x5⟩ := id sx
  obtain ⟨r0, r1, r2, r3, r4, r5⟩ := id sr
  obtain ⟨y0, y1, y2, y3, y4, y5⟩ := id q3
  have hne : g3 ≠ w.heap.size + 1 := by omega
  have hne2 : w.heap.size + 1 ≠ g3 := by omega
  have hwg : w.heap.size ≤ g3 := by omega
  clear hg9 hsw
  go_upto_region 4 with (first | (go_at_call 40; refine (hv _).mono ?_; rintro e w2 ⟨rfl, g2⟩; replace kw := Kp.trans kw g2; replace sx := H3c.keep sx g2; replace sr := H3c.keep sr g2; replace q3 := H3c.keep q3 g2; clear x0 x1 x2 x3 x4 x5 r0 r1 r2 r3 r4 r5 y0 y1 y2 y3 y4 y5; obtain ⟨x0, x1, x2, x3, x4, x5⟩ := id sx; obtain ⟨r0, r1, r2, r3, r4, r5⟩ := id sr; obtain ⟨y0, y1, y2, y3, y4, y5⟩ := id q3))
  refine Fq.wp_region_grow (by kernel_rfl) (by kernel_rfl) (fun ι _ G hG hall => ?_)
  have cc0 : ∀ n, (G n).cell? ⟨g3, 0, none⟩ = some (.int .u64 P) := fun n => Fq.gkeep (hG n) y0
  have cc1 : ∀ n, (G n).cell? ⟨g3, 1, none⟩ = some (.int .u64 Q) := fun n => Fq.gkeep (hG n) y1
  have cc2 : ∀ n, (G n).cell? ⟨g3, 2, none⟩ = some (.int .i64 16) := fun n => Fq.gkeep (hG n) y2
  repeat (go_big_quiet_step (first | (go_at_call 36; exact (rempty9_ _).mono (fun e w' h => ⟨h.1, hall _ (Fq.gtrans (hG _) h.2)⟩))))
  refine wpQuiet_nil ?_
  rintro _ ⟨nq, rfl⟩
  have gq : Kp w2 (G nq) := hG nq
  clear cc0 cc1 cc2 hall hG
  replace kw := Kp.trans kw gq
  replace sx := H3c.keep sx gq
  replace sr := H3c.keep sr gq
  replace q3 := H3c.keep q3 gq
  clear x0 x1 x2 x3 x4 x5 r0 r1 r2 r3 r4 r5 y0 y1 y2 y3 y4 y5
  obtain ⟨x0, x1, x2, x3, x4, x5⟩ := id sx
  obtain ⟨r0, r1, r2, r3, r4, r5⟩ := id sr
  obtain ⟨y0, y1, y2, y3, y4, y5⟩ := id q3
  go_wp2
  exact bodyPost_ret (v := .agg #[.int .u64 P, .int .u64 Q, .int .i64 4]) (by simp [results, Try.results18, go_sem, r0, r1, r2]) rfl ⟨rfl, ((((kw.setCell hwg _).setCell (by simp) _).setCell (by simp) _).setCell (by simp) _)⟩
set_option maxRecDepth 20000 in
set_option maxHeartbeats 2000000 in
theorem rreadS16_ (X Y P Q : Int) (E1 E2 : Bool) (t1 : (P == 9218868437227405312) = E1) (t2 : (Q == 18442240474082181120) = E2) (u : (E1 && E2) = false) (hpl : ∀ w : World, Calls Try.prog 39 #[.agg #[.int .u64 X, .int .u64 Y]] w fun e w' => e = .returned (.agg #[.int .u64 P, .int .u64 Q]) ∧ Kp w w') (hv : ∀ w : World, Calls Try.prog 40 #[.agg #[.int .u64 P, .int .u64 Q]] w fun e w' => e = .returned (.bool true) ∧ Kp w w') (hw : ∀ w : World, Calls Try.prog 42 #[.agg #[.int .u64 P, .int .u64 Q, .int .i64 16]] w fun e w' => e = .returned (.bool true) ∧ Kp w w') (w : World) : Calls Try.prog 18 #[.agg #[.int .u64 X, .int .u64 Y, .int .i64 16]] w fun e w' => e = .returned (.agg #[.int .u64 P, .int .u64 Q, .int .i64 16]) ∧ Kp w w' := by
  cases E1 <;> cases E2
  case true.true => cases u
  all_goals (
    clear u
    go_enter Try.func18, Try.ntmps18
    go_upto_region 1 with fail
    have sx : H3c ((w.alloc (.cells #[.int .u64 X, .int .u64 Y, .int .i64 16] 27)).alloc (.cells #[.int .u64 0, .int .u64 0, .int .i64 0] 27)) w.heap.size (.int .u64 X) (.int .u64 Y) (.int .i64 16) := H3c.keep (H3c.new w (.int .u64 X) (.int .u64 Y) (.int .i64 16) 27) ((Kp.refl _).alloc _)
    have sr := H3c.two w #[.int .u64 X, .int .u64 Y, .int .i64 16] (.int .u64 0) (.int .u64 0) (.int .i64 0) 27 27
    have kw : Kp w ((w.alloc (.cells #[.int .u64 X, .int .u64 Y, .int .i64 16] 27)).alloc (.cells #[.int .u64 0, .int .u64 0, .int .i64 0] 27)) := ((Kp.refl w).alloc _).alloc _
    have hsw : w.heap.size + 1 < ((w.alloc (.cells #[.int .u64 X, .int .u64 Y, .int .i64 16] 27)).alloc (.cells #[.int .u64 0, .int .u64 0, .int .i64 0] 27)).heap.size := by simp
    generalize (w.alloc (.cells #[.int .u64 X, .int .u64 Y, .int .i64 16] 27)).alloc (.cells #[.int .u64 0, .int .u64 0, .int .i64 0] 27) = W at sx sr kw hsw ⊢
    obtain ⟨x0, x1, x2, x3, x4, x5⟩ := id sx
    obtain ⟨r0, r1, r2, r3, r4, r5⟩ := id sr
    go_cut [3] (fun s3 wx => ∃ g : Nat, s3 = .pointer (some ⟨g, 0, none⟩) ∧ H3c wx g (.int .u64 P) (.int .u64 Q) (.int .i64 16) ∧ Kp W wx ∧ W.heap.size ≤ g)
    case first =>
      go_region_held3 (fun w' => w'.cell? ⟨w.heap.size, 0, none⟩ = some (.int .u64 X) ∧ w'.cell? ⟨w.heap.size, 1, none⟩ = some (.int .u64 Y) ∧ w'.cell? ⟨w.heap.size, 2, none⟩ = some (.int .i64 16)) (first | (with_reducible exact ⟨x0, x1, x2⟩) | (with_reducible exact ⟨cb0_0, cb0_1, cb0_2⟩) | (refine ⟨(kkeep (W := W) ?_ x0), (kkeep (W := W) ?_ x1), (kkeep (W := W) ?_ x2)⟩ <;> ((repeat (first | with_reducible exact Kp.refl _ | with_reducible apply Kp.drew | with_reducible apply Kp.alloc)); done)) | (refine ⟨(kkeep (W := w1) ?_ cb0_0), (kkeep (W := w1) ?_ cb0_1), (kkeep (W := w1) ?_ cb0_2)⟩ <;> ((repeat (first | with_reducible exact Kp.refl _ | with_reducible apply Kp.drew | with_reducible apply Kp.alloc)); done)) | (refine ⟨?_, ?_, ?_⟩ <;> (refine ((World.cell?_setCell_far _ _ _ _ ?_).trans ((World.cell?_setCell_far _ _ _ _ ?_).trans ((World.cell?_setCell_far _ _ _ _ ?_).trans ?_))) <;> first | assumption | (have h90 := cell_lt x0; have h91 := cell_lt x1; have h92 := cell_lt x2; have h80 := Below.size KB0; first | omega | (simp <;> omega))))) (first | (go_at_call 39; refine (hpl _).mono ?_; rintro e w1 ⟨rfl, g1⟩; have KB0 : Kp W w1 := Kp.trans (by (repeat (first | exact Kp.refl _ | apply Kp.drew | apply Kp.alloc)); done) g1; have cb0_0 := kkeep KB0 x0; have cb0_1 := kkeep KB0 x1; have cb0_2 := kkeep KB0 x2; first | ((with_reducible have hb9 := (H3c.keep (H3c.newD W (.int .u64 0) (.int .u64 0) (.int .i64 0) 27) g1)); obtain ⟨mb0, mb1, mb2, mb3, mb4, mb5⟩ := id hb9) | skip))
      all_goals go_wp2_with fail
      all_goals (
        go_meet
        refine ⟨_, rfl, ?_, ?_, ?_⟩
        · first | (with_reducible exact H3c.put hb9 _ _ _) | (with_reducible exact H3c.put (H3c.new w1 (.int .u64 0) (.int .u64 0) (.int .i64 0) 27) _ _ _) | (with_reducible exact H3c.new w1 _ _ _ 27) | (unfold H3c; simp [go_sem]; done)
        · have h80 := Below.size KB0
          first | (with_reducible exact (Kp.alloc KB0 _)) | ((with_reducible refine (Kp.setCell (Kp.setCell (Kp.setCell KB0 ?_ _) ?_ _) ?_ _)) <;> first | omega | (simp <;> omega)) | ((with_reducible refine (Kp.setCell (Kp.setCell (Kp.setCell (Kp.alloc KB0 _) ?_ _) ?_ _) ?_ _)) <;> first | omega | (simp <;> omega))
        · have h80 := Below.size KB0
          first | exact Nat.le_refl _ | omega | (simp <;> omega))
    case rest =>
    obtain ⟨g3, rfl, q3, gc, hg9⟩ := hcut
    replace kw := Kp.trans kw gc
    replace sx := H3c.keep sx gc
    replace sr := H3c.keep sr gc
    clear x0 x1 x2 x3 x4 x5 r0 r1 r2 r3 r4 r5
    obtain ⟨x0, x1, x2, x3, x4, x5⟩ := id sx
    obtain ⟨r0, r1, r2, r3, r4, r5⟩ := id sr
    obtain ⟨y0, y1, y2, y3, y4, y5⟩ := id q3
    have hne : g3 ≠ w.heap.size + 1 := by omega
    have hne2 : w.heap.size + 1 ≠ g3 := by omega
    have hwg : w.heap.size ≤ g3 := by omega
    clear hg9 hsw
    go_upto_region 4 with (first | (go_at_call 40; refine (hv _).mono ?_; rintro e w2 ⟨rfl, g2⟩; replace kw := Kp.trans kw g2; replace sx := H3c.keep sx g2; replace sr := H3c.keep sr g2; replace q3 := H3c.keep q3 g2; clear x0 x1 x2 x3 x4 x5 r0 r1 r2 r3 r4 r5 y0 y1 y2 y3 y4 y5; obtain ⟨x0, x1, x2, x3, x4, x5⟩ := id sx; obtain ⟨r0, r1, r2, r3, r4, r5⟩ := id sr; obtain ⟨y0, y1, y2, y3, y4, y5⟩ := id q3))
    refine Fq.wp_region_grow (by kernel_rfl) (by kernel_rfl) (fun ι _ G hG hall => ?_)
    have cc0 : ∀ n, (G n).cell? ⟨g3, 0, none⟩ = some (.int .u64 P) := fun n => Fq.gkeep (hG n) y0
    have cc1 : ∀ n, (G n).cell? ⟨g3, 1, none⟩ = some (.int .u64 Q) := fun n => Fq.gkeep (hG n) y1
    have cc2 : ∀ n, (G n).cell? ⟨g3, 2, none⟩ = some (.int .i64 16) := fun n => Fq.gkeep (hG n) y2
    repeat (go_big_quiet_step (first | (go_at_call 36; exact (rempty9_ _).mono (fun e w' h => ⟨h.1, hall _ (Fq.gtrans (hG _) h.2)⟩))))
    refine wpQuiet_nil ?_
    rintro _ ⟨nq, rfl⟩
    have gq : Kp w2 (G nq) := hG nq
    clear cc0 cc1 cc2 hall hG
    replace kw := Kp.trans kw gq
    replace sx := H3c.keep sx gq
    replace sr := H3c.keep sr gq
    replace q3 := H3c.keep q3 gq
    clear x0 x1 x2 x3 x4 x5 r0 r1 r2 r3 r4 r5 y0 y1 y2 y3 y4 y5
    obtain ⟨x0, x1, x2, x3, x4, x5⟩ := id sx
    obtain ⟨r0, r1, r2, r3, r4, r5⟩ := id sr
    obtain ⟨y0, y1, y2, y3, y4, y5⟩ := id q3
    go_wp2_with (first | (go_at_call 42; refine (hw _).mono ?_; rintro e w4 ⟨rfl, g4⟩; replace kw := Kp.trans kw g4; replace sx := H3c.keep sx g4; replace sr := H3c.keep sr g4; replace q3 := H3c.keep q3 g4; clear x0 x1 x2 x3 x4 x5 r0 r1 r2 r3 r4 r5 y0 y1 y2 y3 y4 y5; obtain ⟨x0, x1, x2, x3, x4, x5⟩ := id sx; obtain ⟨r0, r1, r2, r3, r4, r5⟩ := id sr; obtain ⟨y0, y1, y2, y3, y4, y5⟩ := id q3))
    exact bodyPost_ret (v := .agg #[.int .u64 P, .int .u64 Q, .int .i64 16]) (by simp [results, Try.results18, go_sem, r0, r1, r2]) rfl ⟨rfl, (((kw.setCell (by simp) _).setCell (by simp) _).setCell (by simp) _)⟩)
set_option maxRecDepth 20000 in
set_option maxHeartbeats 2000000 in
theorem rreadT16_ (X Y P Q : Int) (E1 E2 : Bool) (t1 : (P == 9218868437227405312) = E1) (t2 : (Q == 18442240474082181120) = E2) (u : (E1 && E2) = false) (hpl : ∀ w : World, Calls Try.prog 39 #[.agg #[.int .u64 X, .int .u64 Y]] w fun e w' => e = .returned (.agg #[.int .u64 P, .int .u64 Q]) ∧ Kp w w') (hv : ∀ w : World, Calls Try.prog 40 #[.agg #[.int .u64 P, .int .u64 Q]] w fun e w' => e = .returned (.bool true) ∧ Kp w w') (hw : ∀ w : World, Calls Try.prog 42 #[.agg #[.int .u64 P, .int .u64 Q, .int .i64 16]] w fun e w' => e = .returned (.bool false) ∧ Kp w w') (w : World) : Calls Try.prog 18 #[.agg #[.int .u64 X, .int .u64 Y, .int .i64 16]] w fun e w' => e = .returned (.agg #[.int .u64 P, .int .u64 Q, .int .i64 12]) ∧ Kp w w' := by
  cases E1 <;> cases E2
  case true.true => cases u
  all_goals (
    clear u
    go_enter Try.func18, Try.ntmps18
    go_upto_region 1 with fail
    have sx : H3c ((w.alloc (.cells #[.int .u64 X, .int .u64 Y, .int .i64 16] 27)).alloc (.cells #[.int .u64 0, .int .u64 0, .int .i64 0] 27)) w.heap.size (.int .u64 X) (.int .u64 Y) (.int .i64 16) := H3c.keep (H3c.new w (.int .u64 X) (.int .u64 Y) (.int .i64 16) 27) ((Kp.refl _).alloc _)
    have sr := H3c.two w #[.int .u64 X, .int .u64 Y, .int .i64 16] (.int .u64 0) (.int .u64 0) (.int .i64 0) 27 27
    have kw : Kp w ((w.alloc (.cells #[.int .u64 X, .int .u64 Y, .int .i64 16] 27)).alloc (.cells #[.int .u64 0, .int .u64 0, .int .i64 0] 27)) := ((Kp.refl w).alloc _).alloc _
    have hsw : w.heap.size + 1 < ((w.alloc (.cells #[.int .u64 X, .int .u64 Y, .int .i64 16] 27)).alloc (.cells #[.int .u64 0, .int .u64 0, .int .i64 0] 27)).heap.size := by simp
    generalize (w.alloc (.cells #[.int .u64 X, .int .u64 Y, .int .i64 16] 27)).alloc (.cells #[.int .u64 0, .int .u64 0, .int .i64 0] 27) = W at sx sr kw hsw ⊢
    obtain ⟨x0, x1, x2, x3, x4, x5⟩ := id sx
    obtain ⟨r0, r1, r2, r3, r4, r5⟩ := id sr
    go_cut [3] (fun s3 wx => ∃ g : Nat, s3 = .pointer (some ⟨g, 0, none⟩) ∧ H3c wx g (.int .u64 P) (.int .u64 Q) (.int .i64 16) ∧ Kp W wx ∧ W.heap.size ≤ g)
    case first =>
      go_region_held3 (fun w' => w'.cell? ⟨w.heap.size, 0, none⟩ = some (.int .u64 X) ∧ w'.cell? ⟨w.heap.size, 1, none⟩ = some (.int .u64 Y) ∧ w'.cell? ⟨w.heap.size, 2, none⟩ = some (.int .i64 16)) (first | (with_reducible exact ⟨x0, x1, x2⟩) | (with_reducible exact ⟨cb0_0, cb0_1, cb0_2⟩) | (refine ⟨(kkeep (W := W) ?_ x0), (kkeep (W := W) ?_ x1), (kkeep (W := W) ?_ x2)⟩ <;> ((repeat (first | with_reducible exact Kp.refl _ | with_reducible apply Kp.drew | with_reducible apply Kp.alloc)); done)) | (refine ⟨(kkeep (W := w1) ?_ cb0_0), (kkeep (W := w1) ?_ cb0_1), (kkeep (W := w1) ?_ cb0_2)⟩ <;> ((repeat (first | with_reducible exact Kp.refl _ | with_reducible apply Kp.drew | with_reducible apply Kp.alloc)); done)) | (refine ⟨?_, ?_, ?_⟩ <;> (refine ((World.cell?_setCell_far _ _ _ _ ?_).trans ((World.cell?_setCell_far _ _ _ _ ?_).trans ((World.cell?_setCell_far _ _ _ _ ?_).trans ?_))) <;> first | assumption | (have h90 := cell_lt x0; have h91 := cell_lt x1; have h92 := cell_lt x2; have h80 := Below.size KB0; first | omega | (simp <;> omega))))) (first | (go_at_call 39; refine (hpl _).mono ?_; rintro e w1 ⟨rfl, g1⟩; have KB0 : Kp W w1 := Kp.trans (by (repeat (first | exact Kp.refl _ | apply Kp.drew | apply Kp.alloc)); done) g1; have cb0_0 := kkeep KB0 x0; have cb0_1 := kkeep KB0 x1; have cb0_2 := kkeep KB0 x2; first | ((with_reducible have hb9 := (H3c.keep (H3c.newD W (.int .u64 0) (.int .u64 0) (.int .i64 0) 27) g1)); obtain ⟨mb0, mb1, mb2, mb3, mb4, mb5⟩ := id hb9) | skip))
      all_goals go_wp2_with fail
      all_goals (
        go_meet
        refine ⟨_, rfl, ?_, ?_, ?_⟩
        · first | (with_reducible exact H3c.put hb9 _ _ _) | (with_reducible exact H3c.put (H3c.new w1 (.int .u64 0) (.int .u64 0) (.int .i64 0) 27) _ _ _) | (with_reducible exact H3c.new w1 _ _ _ 27) | (unfold H3c; simp [go_sem]; done)
        · have h80 := Below.size KB0
          first | (with_reducible exact (Kp.alloc KB0 _)) | ((with_reducible refine (Kp.setCell (Kp.setCell (Kp.setCell KB0 ?_ _) ?_ _) ?_ _)) <;> first | omega | (simp <;> omega)) | ((with_reducible refine (Kp.setCell (Kp.setCell (Kp.setCell (Kp.alloc KB0 _) ?_ _) ?_ _) ?_ _)) <;> first | omega | (simp <;> omega))
        · have h80 := Below.size KB0
          first | exact Nat.le_refl _ | omega | (simp <;> omega))
    case rest =>
    obtain ⟨g3, rfl, q3, gc, hg9⟩ := hcut
    replace kw := Kp.trans kw gc
    replace sx := H3c.keep sx gc
    replace sr := H3c.keep sr gc
    clear x0 x1 x2 x3 x4 x5 r0 r1 r2 r3 r4 r5
    obtain ⟨x0, x1, x2, x3, x4, x5⟩ := id sx
    obtain ⟨r0, r1, r2, r3, r4, r5⟩ := id sr
    obtain ⟨y0, y1, y2, y3, y4, y5⟩ := id q3
    have hne : g3 ≠ w.heap.size + 1 := by omega
    have hne2 : w.heap.size + 1 ≠ g3 := by omega
    have hwg : w.heap.size ≤ g3 := by omega
    clear hg9 hsw
    go_upto_region 4 with (first | (go_at_call 40; refine (hv _).mono ?_; rintro e w2 ⟨rfl, g2⟩; replace kw := Kp.trans kw g2; replace sx := H3c.keep sx g2; replace sr := H3c.keep sr g2; replace q3 := H3c.keep q3 g2; clear x0 x1 x2 x3 x4 x5 r0 r1 r2 r3 r4 r5 y0 y1 y2 y3 y4 y5; obtain ⟨x0, x1, x2, x3, x4, x5⟩ := id sx; obtain ⟨r0, r1, r2, r3, r4, r5⟩ := id sr; obtain ⟨y0, y1, y2, y3, y4, y5⟩ := id q3))
    refine Fq.wp_region_grow (by kernel_rfl) (by kernel_rfl) (fun ι _ G hG hall => ?_)
    have cc0 : ∀ n, (G n).cell? ⟨g3, 0, none⟩ = some (.int .u64 P) := fun n => Fq.gkeep (hG n) y0
    have cc1 : ∀ n, (G n).cell? ⟨g3, 1, none⟩ = some (.int .u64 Q) := fun n => Fq.gkeep (hG n) y1
    have cc2 : ∀ n, (G n).cell? ⟨g3, 2, none⟩ = some (.int .i64 16) := fun n => Fq.gkeep (hG n) y2
    repeat (go_big_quiet_step (first | (go_at_call 36; exact (rempty9_ _).mono (fun e w' h => ⟨h.1, hall _ (Fq.gtrans (hG _) h.2)⟩))))
    refine wpQuiet_nil ?_
    rintro _ ⟨nq, rfl⟩
    have gq : Kp w2 (G nq) := hG nq
    clear cc0 cc1 cc2 hall hG
    replace kw := Kp.trans kw gq
    replace sx := H3c.keep sx gq
    replace sr := H3c.keep sr gq
    replace q3 := H3c.keep q3 gq
    clear x0 x1 x2 x3 x4 x5 r0 r1 r2 r3 r4 r5 y0 y1 y2 y3 y4 y5
    obtain ⟨x0, x1, x2, x3, x4, x5⟩ := id sx
    obtain ⟨r0, r1, r2, r3, r4, r5⟩ := id sr
    obtain ⟨y0, y1, y2, y3, y4, y5⟩ := id q3
    go_wp2_with (first | (go_at_call 42; refine (hw _).mono ?_; rintro e w4 ⟨rfl, g4⟩; replace kw := Kp.trans kw g4; replace sx := H3c.keep sx g4; replace sr := H3c.keep sr g4; replace q3 := H3c.keep q3 g4; clear x0 x1 x2 x3 x4 x5 r0 r1 r2 r3 r4 r5 y0 y1 y2 y3 y4 y5; obtain ⟨x0, x1, x2, x3, x4, x5⟩ := id sx; obtain ⟨r0, r1, r2, r3, r4, r5⟩ := id sr; obtain ⟨y0, y1, y2, y3, y4, y5⟩ := id q3))
    exact bodyPost_ret (v := .agg #[.int .u64 P, .int .u64 Q, .int .i64 12]) (by simp [results, Try.results18, go_sem, r0, r1, r2]) rfl ⟨rfl, ((((kw.setCell hwg _).setCell (by simp) _).setCell (by simp) _).setCell (by simp) _)⟩)
end B8
end Go.Proofs.Ytbcjhmdkpkmieab
namespace Go.Proofs.Ytbcjhmdkpkmieab
open Go.RowKit
open Go
namespace B8
theorem rread13_ (a b : Nat) (L H D : Int) (hx : Rd a b L H) (w : World) : Calls Try.prog 18 #[.agg #[.int .u64 ((a : Nat) : Int), .int .u64 ((b : Nat) : Int), .int .i64 D]] w fun e w' => e = .returned (.agg #[.int .u64 ((dL a b L (dN L H D) : Nat) : Int), .int .u64 ((dH a b L H (dN L H D) : Nat) : Int), .int .i64 (dR a b L (dN L H D))]) ∧ Kp w w' := by
  have hpl := rplainN_ a b
  have hv := rvalid9n_ (Fq.pla a) (Fq.pla b) (pla_lt a hx.1) (pla_lt b hx.2.1)
  rw [vld_pla a b L H hx] at hv
  unfold dL dH dR
  by_cases c : L = 9218868437227405312
  · have eH : H = -9218868437227405312 := by have := hx.vd; unfold VdZ at this; omega
    have eL2 : pw L = 9218868437227405312 := by rw [c]; exact pw_I
    have eH2 : pw H = 18442240474082181120 := by rw [eH]; exact pw_MI
    rw [decide_eq_true c] at hv
    by_cases e : a = 9218868437227405312 ∧ b = 18442240474082181120
    · rw [decide_eq_true e] at hv
      have p1 : Fq.pla a = 9218868437227405312 := (pla_eq a 9218868437227405312 (by decide) (by decide)).2 e.1
      have p2 : Fq.pla b = 18442240474082181120 := (pla_eq b 18442240474082181120 (by decide) (by decide)).2 e.2
      rw [p1, p2] at hv hpl
      rw [eL2, eH2]
      have hd : ∀ k : Int, k = 4 ∨ k = 8 ∨ k = 12 ∨ k = 16 → dN L H k = 4 := by
        intro k hk
        unfold dN fallN
        rw [decide_eq_true c]
        rcases hk with rfl | rfl | rfl | rfl <;> simp
      by_cases c4 : D = 4
      · subst c4; rw [hd 4 (by simp), if_neg (by simp [e]), if_neg (by simp [e]), if_neg (by simp [e])]
        exact rreadE4_ _ _ _ _ rfl rfl hpl hv w
      by_cases c8 : D = 8
      · subst c8; rw [hd 8 (by simp), if_neg (by simp [e]), if_neg (by simp [e]), if_neg (by simp [e])]
        exact rreadE8_ _ _ _ _ rfl rfl hpl hv w
      by_cases c12 : D = 12
      · subst c12; rw [hd 12 (by simp), if_neg (by simp [e]), if_neg (by simp [e]), if_neg (by simp [e])]
        exact rreadE12_ _ _ _ _ rfl rfl hpl hv w
      by_cases c16 : D = 16
      · subst c16; rw [hd 16 (by simp), if_neg (by simp [e]), if_neg (by simp [e]), if_neg (by simp [e])]
        exact rreadE16_ _ _ _ _ rfl rfl hpl hv w
      have h0 : dN L H D = 0 := by unfold dN fallN; rw [if_neg c16, if_neg c12, if_neg c8, if_neg c4]
      rw [h0, if_pos (Or.inl rfl), if_pos (Or.inl rfl), if_pos (Or.inl rfl)]
      exact rreadB_ _ _ _ _ D (bneI D 4 c4) (bneI D 8 c8) (bneI D 12 c12) (bneI D 16 c16) hpl hv w
    · rw [decide_eq_false e] at hv
      rw [if_pos (Or.inr ⟨c, e⟩), if_pos (Or.inr ⟨c, e⟩), if_pos (Or.inr ⟨c, e⟩)]
      exact rreadA_ _ _ _ _ D hpl hv w
  · have ep := rd_pla a b L H hx c
    rw [decide_eq_false c, Bool.not_false, Bool.true_or] at hv
    have hva := rval13_ (pw L) (pw H) 16 (pw_lt L hx.vd.lo) (pw_lt H hx.vd.hi)
    have hva2 : vdD (pw L) (pw H) 16 = (!decide (L = 9218868437227405312 ∨ L = -9218868437227405312) && !decide (H = 9218868437227405312 ∨ H = -9218868437227405312)) := by
      have i1 := pw_inj L 9218868437227405312 hx.vd.lo (by unfold BdZ; omega)
      have i2 := pw_inj L (-9218868437227405312) hx.vd.lo (by unfold BdZ; omega)
      have i3 := pw_inj H 9218868437227405312 hx.vd.hi (by unfold BdZ; omega)
      have i4 := pw_inj H (-9218868437227405312) hx.vd.hi (by unfold BdZ; omega)
      rw [pw_I] at i1 i3
      rw [pw_MI] at i2 i4
      have hvl : Fq.vld (pw L) (pw H) = true := by
        have := vld_pla a b L H hx
        rw [ep.1, ep.2, decide_eq_false c] at this
        rw [this]; rfl
      unfold vdD
      rw [hvl, decide_eq_false (fun h => c (i1.1 h.1) : ¬ (pw L = 9218868437227405312 ∧ pw H = 18442240474082181120 ∧ (16 : Int) = 0)), decide_eq_false (fun h => c (i1.1 h.1) : ¬ (pw L = 9218868437227405312 ∧ pw H = 18442240474082181120)), show decide (pw L = 9218868437227405312 ∨ pw L = 18442240474082181120) = decide (L = 9218868437227405312 ∨ L = -9218868437227405312) from by congr 1; apply propext; rw [i1, i2], show decide (pw H = 9218868437227405312 ∨ pw H = 18442240474082181120) = decide (H = 9218868437227405312 ∨ H = -9218868437227405312) from by congr 1; apply propext; rw [i3, i4]]
      cases decide (L = 9218868437227405312 ∨ L = -9218868437227405312) <;> cases decide (H = 9218868437227405312 ∨ H = -9218868437227405312) <;> rfl
    rw [hva2] at hva
    rw [ep.1, ep.2] at hv hpl
    have i1 := pw_inj L 9218868437227405312 hx.vd.lo (by unfold BdZ; omega)
    rw [pw_I] at i1
    have t1 : ((pw L : Int) == 9218868437227405312) = decide (pw L = 9218868437227405312) := beqN (pw L) 9218868437227405312
    rw [decide_eq_false (fun h => c (i1.1 h))] at t1
    have hd : ∀ k : Int, dN L H k = fallN k true true (!decide (L = 9218868437227405312 ∨ L = -9218868437227405312) && !decide (H = 9218868437227405312 ∨ H = -9218868437227405312)) := by
      intro k
      unfold dN
      rw [decide_eq_false c]; rfl
    rw [hd D]
    generalize (!decide (L = 9218868437227405312 ∨ L = -9218868437227405312) && !decide (H = 9218868437227405312 ∨ H = -9218868437227405312)) = C at hva
    by_cases c4 : D = 4
    · subst c4; rw [show fallN 4 true true C = 4 from rfl, if_neg (by simp [c]), if_neg (by simp [c]), if_neg (by simp [c])]
      exact rreadS4_ _ _ _ _ _ _ t1 rfl rfl hpl hv w
    by_cases c8 : D = 8
    · subst c8; rw [show fallN 8 true true C = 8 from rfl, if_neg (by simp [c]), if_neg (by simp [c]), if_neg (by simp [c])]
      exact rreadS8_ _ _ _ _ _ _ t1 rfl rfl hpl hv w
    by_cases c12 : D = 12
    · subst c12; rw [show fallN 12 true true C = 12 from rfl, if_neg (by simp [c]), if_neg (by simp [c]), if_neg (by simp [c])]
      exact rreadS12_ _ _ _ _ _ _ t1 rfl rfl hpl hv w
    by_cases c16 : D = 16
    · subst c16
      cases C
      · rw [show fallN 16 true true false = 12 from rfl, if_neg (by simp [c]), if_neg (by simp [c]), if_neg (by simp [c])]
        exact rreadT16_ _ _ _ _ _ _ t1 rfl rfl hpl hv hva w
      · rw [show fallN 16 true true true = 16 from rfl, if_neg (by simp [c]), if_neg (by simp [c]), if_neg (by simp [c])]
        exact rreadS16_ _ _ _ _ _ _ t1 rfl rfl hpl hv hva w
    have h0 : fallN D true true C = 0 := by unfold fallN; rw [if_neg c16, if_neg c12, if_neg c8, if_neg c4]
    rw [h0, if_pos (Or.inl rfl), if_pos (Or.inl rfl), if_pos (Or.inl rfl)]
    exact rreadB_ _ _ _ _ D (bneI D 4 c4) (bneI D 8 c8) (bneI D 12 c12) (bneI D 16 c16) hpl hv w
end B8
end Go.Proofs.Ytbcjhmdkpkmieab
namespace Go.Proofs.Ytbcjhmdkpkmieab
open Go.RowKit
open Go
namespace B8
theorem backlaw_ (p : Option Addr) (c : Nat) (ps : List (Nat × Nat)) (a b : Nat) (D : Int) (ha : a < 18446744073709551616) (hb : b < 18446744073709551616) (w : World) (hx : AG ULV w p ps) (hq : Wq ps) (lx : ps.length ≤ 1048576) : Calls Try.prog 3 #[.slice p ps.length c, .agg #[.int .u64 ((a : Nat) : Int), .int .u64 ((b : Nat) : Int), .int .i64 D]] w fun e w' => e = .returned (.bool true) ∧ Kp w w' := by
  obtain ⟨L, H, r⟩ := Rd.ex a b ha hb
  have hr0 := dread_ a b L H D r
  have hRb : 0 ≤ dR a b L (dN L H D) ∧ dR a b L (dN L H D) < 256 := by
    have h1 : 0 ≤ dN L H D ∧ dN L H D < 256 := by
      unfold dN fallN
      repeat' split
      all_goals omega
    unfold dR
    split <;> omega
  have hz : ∃ L2 H2, Rd (dL a b L (dN L H D)) (dH a b L H (dN L H D)) L2 H2 ∧ dL a b L (dN L H D) = pw L2 ∧ dH a b L H (dN L H D) = pw H2 := by
    unfold dL dH
    by_cases c : dN L H D = 0 ∨ (L = 9218868437227405312 ∧ ¬ (a = 9218868437227405312 ∧ b = 18442240474082181120))
    · rw [if_pos c, if_pos c]
      have v : VdZ 9218868437227405312 (-9218868437227405312) := Or.inl ⟨rfl, rfl⟩
      have r := Rd.of v
      rw [pw_I, pw_MI] at r
      exact ⟨_, _, r, pw_I.symm, pw_MI.symm⟩
    · rw [if_neg c, if_neg c]
      exact ⟨_, _, Rd.of r.vd, rfl, rfl⟩
  obtain ⟨L2, H2, hz, e1, e2⟩ := hz
  have hp0 := put_ _ _ (pw L2) (pw H2) hz.call
  have b1 : dL a b L (dN L H D) < 18446744073709551616 := hz.1
  have b2 : dH a b L H (dN L H D) < 18446744073709551616 := hz.2.1
  rw [← e1, ← e2] at hp0
  have hl0 : (by8 (dL a b L (dN L H D)) ++ by8 (dH a b L H (dN L H D))).length = 16 := by rw [List.length_append, by8_len, by8_len]
  have HPD := putdecoA_ a b _ _ D _ _ hl0 hRb.1 hRb.2 hr0 hp0
  have hlen : (by8 (dL a b L (dN L H D)) ++ by8 (dH a b L H (dN L H D)) ++ [dR a b L (dN L H D)]).length = 17 := by rw [List.length_append, hl0]; rfl
  have gdt := gd_two _ _ _ b1 b2 (vdD_dread a b L H D r)
  have HGD : ∀ (g : Nat) (W : World), Arr W (some ⟨g, 0, none⟩) (by8 (dL a b L (dN L H D)) ++ by8 (dH a b L H (dN L H D)) ++ [dR a b L (dN L H D)]) → Calls Try.prog 14 #[.slice (some ⟨g, 0, none⟩) 17 17] W fun e w' => e = .returned (.tuple #[.agg #[.float .f64 (dL a b L (dN L H D)), .float .f64 (dH a b L H (dN L H D)), .int .i64 (dR a b L (dN L H D))], .int .i64 0]) ∧ Kp W w' := by
    intro g W h
    have := getdeco_ (some ⟨g, 0, none⟩) 17 17 _ W h hlen (((by8_wb _).append (by8_wb _)).append (Wb.mk hRb Wb.nil)) (Nat.le_refl _)
    rw [gdt.1, gdt.2.1, gdt.2.2.1, gdt.2.2.2] at this
    exact this
  by_cases h32 : ps.length ≤ 32
  · have hbk := bb_back ps hq h32
    refine backY_ p c ps.length ps rfl hq lx _ _ D _ a b _ _ _ _ _ hlen w hx (din_ a b D) HPD HGD (dout_ _ _ _) (rread13_ a b L H D r) (fun W k => inbox_ p c ps W (hx.grown k) lx) h32 (1 + 16 * ps.length) (bb ps) (bb_len ps) (fun q d W h => putboxY_ q d ps W h hq h32) ?_
    intro g W h
    have := getbox_ (some ⟨g, 0, none⟩) (1 + 16 * ps.length) (1 + 16 * ps.length) (bb ps) W h (bb_len ps) (bb_wb ps h32) (Nat.le_refl _) (by omega)
    unfold bE at this
    rw [hbk.1, hbk.2, rdb_len] at this
    exact this.mono fun e w' ⟨p', d', h1, h2, _, _, h5⟩ => ⟨p', d', h1, h2, h5⟩
  · exact backN_ p c ps.length ps rfl hq lx _ _ D _ a b _ _ _ _ _ hlen w hx (din_ a b D) HPD HGD (dout_ _ _ _) (rread13_ a b L H D r) (fun W k => inbox_ p c ps W (hx.grown k) lx) (by omega) (fun q d W => putboxN_ q _ d (by omega) W)
end B8
end Go.Proofs.Ytbcjhmdkpkmieab
