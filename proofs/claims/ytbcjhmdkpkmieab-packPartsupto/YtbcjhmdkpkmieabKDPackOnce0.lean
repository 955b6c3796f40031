import Derived.Test.YtbcjhmdkpkmieabKPLf
import Derived.WalkKit
import Derived.ProofKit
import Derived.RowKit3
import Derived.WalkSpells
import Derived.StillTactics
import Derived.Deep.QuietTactic
import Derived.BigQuiet
import Derived.Below
import Derived.Deep.OwnRows
import Derived.OwnWalk
import Derived.Lib.BitFns
import Derived.Deep.RegionHeld3
import Derived.Deep.CutRange
import Derived.Deep.DeepCutAuto
import Derived.Laws.FloatArith
import Derived.Laws.BitsAllLaws
import Derived.Laws.Slices
import Derived.Laws.Bits64b
namespace Go.Proofs.Ytbcjhmdkpkmieab
open Go.RowKit
open Go
namespace B8
theorem Wb.mk {x : Int} {xs : List Int} (h0 : 0 ≤ x ∧ x < 256) (h : Wb xs) : Wb (x :: xs) := by
  intro j
  cases j with
  | zero => simpa using h0
  | succ j => simpa using h j
theorem Wb.append {xs ys : List Int} (h : Wb xs) (k : Wb ys) : Wb (xs ++ ys) := by
  intro j
  by_cases c : j < xs.length
  · have := h j; simpa [List.getD, List.getElem?_append, c] using this
  · have := k (j - xs.length); simpa [List.getD, List.getElem?_append, c] using this
theorem by8_bv (xs : List Int) (hl : xs.length = 8) (h : Wb xs) : by8 (bv xs) = xs := by
  match xs, hl with
  | [a, b, c, d, e, f, g, i], _ =>
    obtain ⟨ha, h⟩ := h.cons
    obtain ⟨hb, h⟩ := h.cons
    obtain ⟨hc, h⟩ := h.cons
    obtain ⟨hd, h⟩ := h.cons
    obtain ⟨he, h⟩ := h.cons
    obtain ⟨hf, h⟩ := h.cons
    obtain ⟨hg, h⟩ := h.cons
    obtain ⟨hi, h⟩ := h.cons
    show [_, _, _, _, _, _, _, _] = _
    simp only [bt, bv]
    have e1 : ∀ A B : Nat, A < 256 → (A + 256 * B) / 256 = B := fun A B h => by omega
    have e2 : ∀ A B : Nat, A < 256 → (A + 256 * B) % 256 = A := fun A B h => by omega
    simp only [show (256 : Nat) ^ 0 = 1 from rfl, show (256 : Nat) ^ 1 = 256 from rfl, show (256 : Nat) ^ 2 = 256 * 256 from rfl, show (256 : Nat) ^ 3 = 256 * 256 * 256 from rfl, show (256 : Nat) ^ 4 = 256 * 256 * 256 * 256 from rfl, show (256 : Nat) ^ 5 = 256 * 256 * 256 * 256 * 256 from rfl, show (256 : Nat) ^ 6 = 256 * 256 * 256 * 256 * 256 * 256 from rfl, show (256 : Nat) ^ 7 = 256 * 256 * 256 * 256 * 256 * 256 * 256 from rfl, ← Nat.div_div_eq_div_mul, Nat.div_one]
    rw [e2 _ _ (by omega), e1 _ _ (by omega), e2 _ _ (by omega), e1 _ _ (by omega), e2 _ _ (by omega), e1 _ _ (by omega), e2 _ _ (by omega), e1 _ _ (by omega), e2 _ _ (by omega), e1 _ _ (by omega), e2 _ _ (by omega), e1 _ _ (by omega), e2 _ _ (by omega), e1 _ _ (by omega), e2 _ _ (by omega)]
    simp; omega
theorem inf8p : ∃ i, Try.prog.info? 5 = some i ∧ i.zero = some (.int .u8 0) ∧ i.size = 1 ∧ i.bytes = 1 := info_parts inf8
/-- one word more -/
theorem Own.push {w : World} {base : Nat} {v : Value} {xs : List Int} {X : Int} (h : w.ownsRow base 5 1 v (xs.length + 1) (xs.map (Value.int .u8) ++ [.int .u8 X])) : Own w base v (xs ++ [X]) := by
  unfold Own
  simpa using h
theorem own_block {w : World} {base : Nat} {v : Value} {xs : List Int} (h : Own w base v xs) : ∀ k, v.ownBlock = some k → base ≤ k := fun k hk => (h.lt k hk).1
theorem take_push (xs : List Int) (k : Nat) (h : k < xs.length) : xs.take k ++ [xs.getD k 0] = xs.take (k + 1) := by
  rw [List.take_add_one, List.getElem?_eq_getElem h]
  simp [List.getD, h]
end B8
end Go.Proofs.Ytbcjhmdkpkmieab
namespace Go.Proofs.Ytbcjhmdkpkmieab
open Go.RowKit
namespace Fq
set_option maxRecDepth 20000 in
set_option maxHeartbeats 1000000 in
theorem voidR_ (a b : Nat) (ha : a < 18446744073709551616) (hb : b < 18446744073709551616) (w : World) : Calls Try.prog 64 #[.agg #[.float .f64 a, .float .f64 b]] w fun e w' => e = .returned (.bool (decide (a = 9218868437227405312 ∧ b = 18442240474082181120))) ∧ Grown w w' := by
  have t2 := feqI a ha
  have t3 := feqM b hb
  have e1 : (decide (a = 9218868437227405312 ∧ b = 18442240474082181120)) = ((FloatKind.f64.format.order a 9218868437227405312 == some Ordering.eq) && (FloatKind.f64.format.order b 18442240474082181120 == some Ordering.eq)) := by
    rw [t2, t3]; by_cases c1 : a = 9218868437227405312 <;> by_cases c2 : b = 18442240474082181120 <;> simp [c1, c2]
  rw [e1]
  clear e1 t2 t3 ha hb
  have h0 := eqInR a 9218868437227405312
  have h1 := eqInR b 18442240474082181120
  generalize g1 : (FloatKind.f64.format.order a 9218868437227405312 == some Ordering.eq) = B1 at h0 ⊢
  generalize g2 : (FloatKind.f64.format.order b 18442240474082181120 == some Ordering.eq) = B2 at h1 ⊢
  cases B1 <;> cases B2
  · go_enter Try.func64, Try.ntmps64
    go_wp2
    go_region_held3 (fun w' => w'.cell? ⟨w.heap.size, 0, none⟩ = some (.float .f64 a) ∧ w'.cell? ⟨w.heap.size, 1, none⟩ = some (.float .f64 b)) (simp [go_sem, World.cell?_alloc_past]) (first | (go_at_call 49; refine (empty6_ _).mono ?_; rintro e w' ⟨rfl, rfl⟩))
    go_wp2
    exact bodyPost_ret (v := .bool false) (by simp [results, Try.results64, go_sem] <;> simp only [*]) rfl ⟨rfl, (by repeat (with_reducible (first | assumption | exact Grown.refl _ | apply Grown.drew | apply Grown.alloc | apply gdrewN | (refine Grown.setCell ?_ (by simp <;> omega) _) | (refine gtrans ?_ (by assumption)))))⟩
  · go_enter Try.func64, Try.ntmps64
    go_wp2
    go_region_held3 (fun w' => w'.cell? ⟨w.heap.size, 0, none⟩ = some (.float .f64 a) ∧ w'.cell? ⟨w.heap.size, 1, none⟩ = some (.float .f64 b)) (simp [go_sem, World.cell?_alloc_past]) (first | (go_at_call 49; refine (empty6_ _).mono ?_; rintro e w' ⟨rfl, rfl⟩))
    go_wp2
    exact bodyPost_ret (v := .bool false) (by simp [results, Try.results64, go_sem] <;> simp only [*]) rfl ⟨rfl, (by repeat (with_reducible (first | assumption | exact Grown.refl _ | apply Grown.drew | apply Grown.alloc | apply gdrewN | (refine Grown.setCell ?_ (by simp <;> omega) _) | (refine gtrans ?_ (by assumption)))))⟩
  · go_enter Try.func64, Try.ntmps64
    go_wp2
    go_region_held3 (fun w' => w'.cell? ⟨w.heap.size, 0, none⟩ = some (.float .f64 a) ∧ w'.cell? ⟨w.heap.size, 1, none⟩ = some (.float .f64 b)) (simp [go_sem, World.cell?_alloc_past]) (first | (go_at_call 49; refine (empty6_ _).mono ?_; rintro e w' ⟨rfl, rfl⟩))
    go_wp2
    exact bodyPost_ret (v := .bool false) (by simp [results, Try.results64, go_sem] <;> simp only [*]) rfl ⟨rfl, (by repeat (with_reducible (first | assumption | exact Grown.refl _ | apply Grown.drew | apply Grown.alloc | apply gdrewN | (refine Grown.setCell ?_ (by simp <;> omega) _) | (refine gtrans ?_ (by assumption)))))⟩
  · go_enter Try.func64, Try.ntmps64
    go_wp2
    go_region_held3 (fun w' => w'.cell? ⟨w.heap.size, 0, none⟩ = some (.float .f64 a) ∧ w'.cell? ⟨w.heap.size, 1, none⟩ = some (.float .f64 b)) (simp [go_sem, World.cell?_alloc_past]) (first | (go_at_call 49; refine (empty6_ _).mono ?_; rintro e w' ⟨rfl, rfl⟩))
    go_wp2
    exact bodyPost_ret (v := .bool true) (by simp [results, Try.results64, go_sem] <;> simp only [*]) rfl ⟨rfl, (by repeat (with_reducible (first | assumption | exact Grown.refl _ | apply Grown.drew | apply Grown.alloc | apply gdrewN | (refine Grown.setCell ?_ (by simp <;> omega) _) | (refine gtrans ?_ (by assumption)))))⟩
end Fq
end Go.Proofs.Ytbcjhmdkpkmieab
namespace Go.Proofs.Ytbcjhmdkpkmieab
open Go.RowKit
theorem emp9 (L H : Int) (h : VdZ L H) : decide (pw L = 9218868437227405312 ∧ pw H = 18442240474082181120) = decide (L = 9218868437227405312) := by
  congr 1; apply propext
  have e1 := pw_inj L 9218868437227405312 h.lo (by unfold BdZ; omega)
  have e2 := pw_inj H (-9218868437227405312) h.hi (by unfold BdZ; omega)
  rw [pw_I] at e1
  rw [pw_MI] at e2
  rw [e1, e2]
  unfold VdZ at h
  omega
theorem void9_ (L H : Int) (h : VdZ L H) (w : World) : Calls Try.prog 64 #[.agg #[.float .f64 (pw L), .float .f64 (pw H)]] w fun e w' => e = .returned (.bool (decide (L = 9218868437227405312))) ∧ Kp w w' := by
  have g := Fq.voidR_ (pw L) (pw H) (pw_lt L h.lo) (pw_lt H h.hi) w
  rw [emp9 L H h] at g
  exact g
end Go.Proofs.Ytbcjhmdkpkmieab
namespace Go.Proofs.Ytbcjhmdkpkmieab
open Go.RowKit
set_option maxRecDepth 20000 in
set_option maxHeartbeats 2000000 in
theorem isempA_ (a b ZL ZH : Nat) (V : Bool) (hx : ∀ w : World, Calls Try.prog 31 #[.agg #[.float .f64 a, .float .f64 b]] w fun e w' => e = .returned (.agg #[.float .f64 ZL, .float .f64 ZH]) ∧ Kp w w') (hv : ∀ w : World, Calls Try.prog 64 #[.agg #[.float .f64 ZL, .float .f64 ZH]] w fun e w' => e = .returned (.bool V) ∧ Kp w w') (w : World) : Calls Try.prog 53 #[.agg #[.float .f64 a, .float .f64 b]] w fun e w' => e = .returned (.bool V) ∧ Kp w w' := by
  go_enter Try.func53, Try.ntmps53
  go_wp2_with (first | (go_at_call 31; refine (hx _).mono ?_; rintro e w1 ⟨rfl, g1⟩; have k1 : Kp w w1 := Kp.trans ((Kp.refl w).alloc _) g1) | (go_at_call 64; refine (hv _).mono ?_; rintro e w2 ⟨rfl, g2⟩; have k2 : Kp w w2 := Kp.trans k1 g2))
  exact bodyPost_ret (v := .bool V) (by simp [results, Try.results53, go_sem]) rfl ⟨rfl, k2⟩
theorem isemp9_ (a b : Nat) (L H : Int) (hx : Rd a b L H) (w : World) : Calls Try.prog 53 #[.agg #[.float .f64 a, .float .f64 b]] w fun e w' => e = .returned (.bool (decide (L = 9218868437227405312))) ∧ Kp w w' :=
  isempA_ a b _ _ _ hx.call (void9_ L H hx.vd) w
end Go.Proofs.Ytbcjhmdkpkmieab
namespace Go.Proofs.Ytbcjhmdkpkmieab
open Go.RowKit
open Ieee in
theorem fgt8 (n n' : Bool) (m m' : Nat) (h : m < 9223372036854775808) (h' : m' < 9223372036854775808) : (FloatKind.f64.format.order (Fq.wD n m) (Fq.wD n' m') == some Ordering.gt) = decide (m ≤ 9218868437227405312 ∧ m' ≤ 9218868437227405312 ∧ Fq.plz n' m' < Fq.plz n m) := by
  by_cases c : 9218868437227405312 < m
  · rw [Fq.ordD_nanl n m _ c h, decide_eq_false (by omega)]; rfl
  by_cases c' : 9218868437227405312 < m'
  · rw [Fq.ordD_nanr n' m' _ c' h', decide_eq_false (by omega)]; rfl
  rw [Fq.ordD n n' m m' (by omega) (by omega)]
  rcases Int.lt_trichotomy (Fq.plz n m) (Fq.plz n' m') with g | g | g
  · rw [Fq.cmp_lt g, decide_eq_false (by omega)]; rfl
  · rw [Fq.cmp_eq g, decide_eq_false (by omega)]; rfl
  · rw [Fq.cmp_gt g, decide_eq_true ⟨by omega, by omega, by omega⟩]; rfl
set_option maxRecDepth 20000 in
set_option maxHeartbeats 400000 in
theorem abs_ (n : Bool) (m : Nat) (hm : m < 9223372036854775808) (w : World) : Calls Try.prog 66 #[.float .f64 (Fq.wD n m)] w fun e w' => e = .returned (.float .f64 m) ∧ w' = w := by
  obtain ⟨X, hX⟩ : ∃ X, X = Fq.wD n m := ⟨_, rfl⟩
  have f1 := (Fq.noTop6 n m X hm hX).1
  rw [← hX]
  clear hX hm
  have h1 := Fq.fb64 X
  have h2 := Fq.ff64 m
  go_enter Try.func66, Try.ntmps66
  go_wp2
  exact bodyPost_ret (v := .float .f64 m) (by simp [results, Try.results66, go_sem]) rfl ⟨rfl, rfl⟩
set_option maxRecDepth 20000 in
set_option maxHeartbeats 400000 in
theorem isInfA_ (X R : Nat) (V : Bool) (h1 : ∀ w : World, Calls Try.prog 66 #[.float .f64 X] w fun e w' => e = .returned (.float .f64 R) ∧ w' = w) (t : (FloatKind.f64.format.order R 9218868437227405311 == some Ordering.gt) = V) (w : World) : Calls Try.prog 65 #[.float .f64 X, .int .i64 0] w fun e w' => e = .returned (.bool V) ∧ w' = w := by
  go_enter Try.func65, Try.ntmps65
  go_wp2_with (first | (go_at_call 66; refine (h1 _).mono ?_; rintro e w' ⟨rfl, hw'⟩; obtain rfl := hw'.symm; clear hw'))
  exact bodyPost_ret (v := .bool V) (by simp [results, Try.results65, go_sem] <;> simpa using t) rfl ⟨rfl, rfl⟩
theorem isInf8_ (n : Bool) (m : Nat) (hm : m ≤ 9218868437227405312) (w : World) : Calls Try.prog 65 #[.float .f64 (Fq.wD n m), .int .i64 0] w fun e w' => e = .returned (.bool (decide (m = 9218868437227405312))) ∧ w' = w := by
  have t := fgt8 false false m 9218868437227405311 (by omega) (by decide)
  rw [show Fq.wD false m = m from rfl, show Fq.wD false 9218868437227405311 = 9218868437227405311 from rfl, show decide (m ≤ 9218868437227405312 ∧ 9218868437227405311 ≤ 9218868437227405312 ∧ Fq.plz false 9218868437227405311 < Fq.plz false m) = decide (m = 9218868437227405312) from by congr 1; apply propext; unfold Fq.plz; simp; omega] at t
  exact isInfA_ _ m _ (abs_ n m (by omega)) t w
theorem isInfP_ (x : Int) (h : BdZ x) (w : World) : Calls Try.prog 65 #[.float .f64 (pw x), .int .i64 0] w fun e w' => e = .returned (.bool (decide (x = 9218868437227405312 ∨ x = -9218868437227405312))) ∧ w' = w := by
  have g := isInf8_ (decide (x < 0)) x.natAbs (abs_pw x h) w
  rw [show decide (x.natAbs = 9218868437227405312) = decide (x = 9218868437227405312 ∨ x = -9218868437227405312) from by congr 1; apply propext; omega] at g
  exact g
set_option maxRecDepth 20000 in
set_option maxHeartbeats 2000000 in
theorem commonA_ (a b L H : Nat) (hx : ∀ w : World, Calls Try.prog 31 #[.agg #[.float .f64 a, .float .f64 b]] w fun e w' => e = .returned (.agg #[.float .f64 L, .float .f64 H]) ∧ Kp w w') (E1 E2 : Bool) (i1 : ∀ w : World, Calls Try.prog 65 #[.float .f64 L, .int .i64 0] w fun e w' => e = .returned (.bool E1) ∧ w' = w) (i2 : ∀ w : World, Calls Try.prog 65 #[.float .f64 H, .int .i64 0] w fun e w' => e = .returned (.bool E2) ∧ w' = w) (w : World) : Calls Try.prog 56 #[.agg #[.float .f64 a, .float .f64 b]] w fun e w' => e = .returned (.bool (!E1 && !E2)) ∧ Kp w w' := by
  cases E1 <;> cases E2
  all_goals (
    go_enter Try.func56, Try.ntmps56
    go_wp2_with (first | (go_at_call 31; refine (hx _).mono ?_; rintro e w1 ⟨rfl, g1⟩; have k1 : Kp w w1 := Kp.trans ((Kp.refl w).alloc _) g1; have q0 := Fq.H2.keep (Fq.H2.new w (.float .f64 a) (.float .f64 b) 31) g1; obtain ⟨x0, x1, x2, x3⟩ := id q0) | (go_at_call_of 65 (Value.float .f64 L); refine (i1 _).mono ?_; rintro e w3 ⟨rfl, hw3⟩; obtain rfl := hw3.symm; clear hw3) | (go_at_call_of 65 (Value.float .f64 H); refine (i2 _).mono ?_; rintro e w3 ⟨rfl, hw3⟩; obtain rfl := hw3.symm; clear hw3))
    exact bodyPost_ret (v := .bool _) (by simp [results, Try.results56, go_sem]) rfl ⟨rfl, (by repeat (with_reducible (first | assumption | exact Kp.refl _ | apply Kp.drew | apply Kp.alloc | apply Kp.drewN | (refine Kp.setCell ?_ (by first | omega | (simp <;> omega)) _) | (refine Kp.trans ?_ (by assumption)))))⟩)
theorem common9_ (a b : Nat) (L H : Int) (hx : Rd a b L H) (w : World) : Calls Try.prog 56 #[.agg #[.float .f64 a, .float .f64 b]] w fun e w' => e = .returned (.bool (!decide (L = 9218868437227405312 ∨ L = -9218868437227405312) && !decide (H = 9218868437227405312 ∨ H = -9218868437227405312))) ∧ Kp w w' :=
  commonA_ a b _ _ hx.call _ _ (isInfP_ L hx.vd.lo) (isInfP_ H hx.vd.hi) w
end Go.Proofs.Ytbcjhmdkpkmieab
namespace Go.Proofs.Ytbcjhmdkpkmieab
open Go.RowKit
/-- the strongest decoration, of D and those below it, that holds -/
def fallN (D : Int) (b1 b2 b3 : Bool) : Int := if D = 16 then (if b1 && b2 && b3 then 16 else if b1 && b2 then 12 else if b1 then 8 else 4) else if D = 12 then (if b1 && b2 then 12 else if b1 then 8 else 4) else if D = 8 then (if b1 then 8 else 4) else if D = 4 then 4 else 0
set_option maxRecDepth 20000 in
set_option maxHeartbeats 2000000 in
theorem fall16_ (b1 b2 b3 : Bool) (w : World) : Calls Try.prog 55 #[.int .i64 16, .agg #[.bool b1, .bool b2, .bool b3]] w fun e w' => e = .returned (.int .i64 (if b1 && b2 && b3 then 16 else if b1 && b2 then 12 else if b1 then 8 else 4)) ∧ Kp w w' := by
  cases b1 <;> cases b2 <;> cases b3
  all_goals (
    go_enter Try.func55, Try.ntmps55
    go_wp2
    exact bodyPost_ret (v := .int .i64 _) (by simp [results, Try.results55, go_sem]) rfl ⟨rfl, (by repeat (with_reducible (first | assumption | exact Kp.refl _ | apply Kp.drew | apply Kp.alloc | apply Kp.drewN | (refine Kp.setCell ?_ (by first | omega | (simp <;> omega)) _) | (refine Kp.trans ?_ (by assumption)))))⟩)
set_option maxRecDepth 20000 in
set_option maxHeartbeats 2000000 in
theorem fall12_ (b1 b2 b3 : Bool) (w : World) : Calls Try.prog 55 #[.int .i64 12, .agg #[.bool b1, .bool b2, .bool b3]] w fun e w' => e = .returned (.int .i64 (if b1 && b2 then 12 else if b1 then 8 else 4)) ∧ Kp w w' := by
  cases b1 <;> cases b2 <;> cases b3
  all_goals (
    go_enter Try.func55, Try.ntmps55
    go_wp2
    exact bodyPost_ret (v := .int .i64 _) (by simp [results, Try.results55, go_sem]) rfl ⟨rfl, (by repeat (with_reducible (first | assumption | exact Kp.refl _ | apply Kp.drew | apply Kp.alloc | apply Kp.drewN | (refine Kp.setCell ?_ (by first | omega | (simp <;> omega)) _) | (refine Kp.trans ?_ (by assumption)))))⟩)
set_option maxRecDepth 20000 in
set_option maxHeartbeats 2000000 in
theorem fall8_ (b1 b2 b3 : Bool) (w : World) : Calls Try.prog 55 #[.int .i64 8, .agg #[.bool b1, .bool b2, .bool b3]] w fun e w' => e = .returned (.int .i64 (if b1 then 8 else 4)) ∧ Kp w w' := by
  cases b1 <;> cases b2 <;> cases b3
  all_goals (
    go_enter Try.func55, Try.ntmps55
    go_wp2
    exact bodyPost_ret (v := .int .i64 _) (by simp [results, Try.results55, go_sem]) rfl ⟨rfl, (by repeat (with_reducible (first | assumption | exact Kp.refl _ | apply Kp.drew | apply Kp.alloc | apply Kp.drewN | (refine Kp.setCell ?_ (by first | omega | (simp <;> omega)) _) | (refine Kp.trans ?_ (by assumption)))))⟩)
set_option maxRecDepth 20000 in
set_option maxHeartbeats 2000000 in
theorem fall4_ (b1 b2 b3 : Bool) (w : World) : Calls Try.prog 55 #[.int .i64 4, .agg #[.bool b1, .bool b2, .bool b3]] w fun e w' => e = .returned (.int .i64 4) ∧ Kp w w' := by
  cases b1 <;> cases b2 <;> cases b3
  all_goals (
    go_enter Try.func55, Try.ntmps55
    go_wp2
    exact bodyPost_ret (v := .int .i64 _) (by simp [results, Try.results55, go_sem]) rfl ⟨rfl, (by repeat (with_reducible (first | assumption | exact Kp.refl _ | apply Kp.drew | apply Kp.alloc | apply Kp.drewN | (refine Kp.setCell ?_ (by first | omega | (simp <;> omega)) _) | (refine Kp.trans ?_ (by assumption)))))⟩)
set_option maxRecDepth 20000 in
set_option maxHeartbeats 1000000 in
theorem fall0_ (D : Int) (b1 b2 b3 : Bool) (t1 : (D == 16) = false) (t2 : (D == 12) = false) (t3 : (D == 8) = false) (t4 : (D == 4) = false) (w : World) : Calls Try.prog 55 #[.int .i64 D, .agg #[.bool b1, .bool b2, .bool b3]] w fun e w' => e = .returned (.int .i64 0) ∧ Kp w w' := by
  go_enter Try.func55, Try.ntmps55
  go_wp2
  exact bodyPost_ret (v := .int .i64 0) (by simp [results, Try.results55, go_sem]) rfl ⟨rfl, (by repeat (with_reducible (first | assumption | exact Kp.refl _ | apply Kp.drew | apply Kp.alloc | apply Kp.drewN | (refine Kp.setCell ?_ (by first | omega | (simp <;> omega)) _) | (refine Kp.trans ?_ (by assumption)))))⟩
theorem fall_ (D : Int) (b1 b2 b3 : Bool) (w : World) : Calls Try.prog 55 #[.int .i64 D, .agg #[.bool b1, .bool b2, .bool b3]] w fun e w' => e = .returned (.int .i64 (fallN D b1 b2 b3)) ∧ Kp w w' := by
  unfold fallN
  by_cases c1 : D = 16
  · rw [if_pos c1, c1]; exact fall16_ b1 b2 b3 w
  rw [if_neg c1]
  by_cases c2 : D = 12
  · rw [if_pos c2, c2]; exact fall12_ b1 b2 b3 w
  rw [if_neg c2]
  by_cases c3 : D = 8
  · rw [if_pos c3, c3]; exact fall8_ b1 b2 b3 w
  rw [if_neg c3]
  by_cases c4 : D = 4
  · rw [if_pos c4, c4]; exact fall4_ b1 b2 b3 w
  rw [if_neg c4]
  exact fall0_ D b1 b2 b3 (by simpa using c1) (by simpa using c2) (by simpa using c3) (by simpa using c4) w
set_option maxRecDepth 20000 in
set_option maxHeartbeats 1000000 in
theorem nai_ (w : World) : Calls Try.prog 54 #[] w fun e w' => e = .returned (.agg #[.float .f64 9218868437227405312, .float .f64 18442240474082181120, .int .i64 0]) ∧ Kp w w' := by
  go_enter Try.func54, Try.ntmps54
  go_wp2_with (first | (go_at_call 49; refine (Fq.empty6_ _).mono ?_; rintro e w1 ⟨rfl, rfl⟩))
  exact bodyPost_ret (v := .agg #[.float .f64 9218868437227405312, .float .f64 18442240474082181120, .int .i64 0]) (by simp [results, Try.results54, go_sem]) rfl ⟨rfl, (by repeat (with_reducible (first | assumption | exact Kp.refl _ | apply Kp.drew | apply Kp.alloc | apply Kp.drewN | (refine Kp.setCell ?_ (by first | omega | (simp <;> omega)) _) | (refine Kp.trans ?_ (by assumption)))))⟩
end Go.Proofs.Ytbcjhmdkpkmieab
namespace Go.Proofs.Ytbcjhmdkpkmieab
open Go.RowKit
set_option maxRecDepth 20000 in
set_option maxHeartbeats 2000000 in
theorem dreadC_ (a b L H : Nat) (D : Int) (hx : ∀ w : World, Calls Try.prog 31 #[.agg #[.float .f64 a, .float .f64 b]] w fun e w' => e = .returned (.agg #[.float .f64 L, .float .f64 H]) ∧ Kp w w') (hv : ∀ w : World, Calls Try.prog 53 #[.agg #[.float .f64 L, .float .f64 H]] w fun e w' => e = .returned (.bool true) ∧ Kp w w') (E1 E2 : Bool) (u1 : (FloatKind.f64.format.order a L == some Ordering.eq) = E1) (u2 : (FloatKind.f64.format.order b H == some Ordering.eq) = E2) (u : (E1 && E2) = false) (w : World) : Calls Try.prog 38 #[.agg #[.float .f64 a, .float .f64 b, .int .i64 D]] w fun e w' => e = .returned (.agg #[.float .f64 9218868437227405312, .float .f64 18442240474082181120, .int .i64 0]) ∧ Kp w w' := by
  have q1 := Fq.eqInR a L
  have q2 := Fq.eqInR b H
  rw [u1] at q1
  rw [u2] at q2
  clear u1 u2
  cases E1 <;> cases E2
  case true.true => cases u
  all_goals (
    clear u
    go_enter Try.func38, Try.ntmps38
    go_wp2_with (first | (go_at_call 31; refine (hx _).mono ?_; rintro e w1 ⟨rfl, g1⟩; have k1 : Kp w w1 := Kp.trans (((Kp.refl w).alloc _).alloc _) g1; have sx := H3c.keep (H3c.keep (H3c.new w (.float .f64 a) (.float .f64 b) (.int .i64 D) 41) ((Kp.refl _).alloc (.cells #[.float .f64 0, .float .f64 0, .int .i64 0] 41))) g1; have sr := H3c.keep (H3c.two w #[.float .f64 a, .float .f64 b, .int .i64 D] (.float .f64 0) (.float .f64 0) (.int .i64 0) 41 41) g1) | (go_at_call 53; refine (hv _).mono ?_; rintro e w2 ⟨rfl, g2⟩; have k2 := Kp.trans (k1.alloc _) g2; have qy := Fq.H2.keep (Fq.H2.new w1 (.float .f64 L) (.float .f64 H) 31) g2; replace sx := H3c.keep (H3c.keep sx ((Kp.refl w1).alloc _)) g2; replace sr := H3c.keep (H3c.keep sr ((Kp.refl w1).alloc _)) g2; obtain ⟨x0, x1, x2, x3, x4, x5⟩ := id sx; obtain ⟨r0, r1, r2, r3, r4, r5⟩ := id sr; obtain ⟨y0, y1, y2, y3⟩ := id qy) | (go_at_call 54; refine (nai_ _).mono ?_; rintro e w5 ⟨rfl, g5⟩; have k5 := Kp.trans k2 g5; obtain ⟨r0, r1, r2, r3, r4, r5⟩ := H3c.keep sr g5))
    exact bodyPost_ret (v := .agg #[.float .f64 9218868437227405312, .float .f64 18442240474082181120, .int .i64 0]) (by simp [results, Try.results38, go_sem, r0, r1, r2]) rfl ⟨rfl, (((k5.setCell (by simp) _).setCell (by simp) _).setCell (by simp) _)⟩)
end Go.Proofs.Ytbcjhmdkpkmieab
namespace Go.Proofs.Ytbcjhmdkpkmieab
open Go.RowKit
open Go
namespace B8
def FLV (x : Nat) : Value := .float .f64 x
/-- pairs, cell by cell -/
def flat (f : Nat → Value) : List (Nat × Nat) → List Value
  | [] => []
  | q :: r => f q.1 :: f q.2 :: flat f r
theorem flat_app (f : Nat → Value) : ∀ ps qs, flat f (ps ++ qs) = flat f ps ++ flat f qs
  | [], qs => rfl
  | q :: r, qs => by simp only [List.cons_append, flat, flat_app f r qs]
theorem flat_get (f : Nat → Value) : ∀ (ps : List (Nat × Nat)) (j : Nat), j < ps.length → (flat f ps)[j * 2]? = some (f (ps.getD j (0, 0)).1) ∧ (flat f ps)[j * 2 + 1]? = some (f (ps.getD j (0, 0)).2)
  | [], j, h => by simp at h
  | q :: r, 0, _ => by simp [flat]
  | q :: r, j + 1, h => by
    have ih := flat_get f r j (by simpa using h)
    rw [show (j + 1) * 2 = j * 2 + 1 + 1 from by omega]
    simp only [flat, List.getElem?_cons_succ, List.getD_cons_succ]
    exact ih
/-- the pairs that a slice shows -/
def AG (f : Nat → Value) (w : World) (p : Option Addr) (ps : List (Nat × Nat)) : Prop := ps = [] ∨ ∃ b off, p = some ⟨b, off, none⟩ ∧ ∀ j, j < ps.length → w.cell? ⟨b, off + j * 2, none⟩ = some (f (ps.getD j (0, 0)).1) ∧ w.cell? ⟨b, off + j * 2 + 1, none⟩ = some (f (ps.getD j (0, 0)).2)
theorem AG.grown {f : Nat → Value} {w w' : World} {p : Option Addr} {ps : List (Nat × Nat)} (h : AG f w p ps) (g : Kp w w') : AG f w' p ps := by
  rcases h with h | ⟨b, off, h1, h2⟩
  · exact Or.inl h
  · exact Or.inr ⟨b, off, h1, fun j hj => ⟨kkeep g (h2 j hj).1, kkeep g (h2 j hj).2⟩⟩
theorem AG.at {f : Nat → Value} {w : World} {p : Option Addr} {ps : List (Nat × Nat)} (h : AG f w p ps) {k : Nat} (hk : k < ps.length) : ∃ b off, p = some ⟨b, off, none⟩ ∧ ∀ j, j < ps.length → w.cell? ⟨b, off + j * 2, none⟩ = some (f (ps.getD j (0, 0)).1) ∧ w.cell? ⟨b, off + j * 2 + 1, none⟩ = some (f (ps.getD j (0, 0)).2) := by
  rcases h with h | h
  · subst h; simp at hk
  · exact h
/-- pairs of the call's own -/
def OG (f : Nat → Value) (T : TypeId) (w : World) (base : Nat) (v : Value) (ps : List (Nat × Nat)) : Prop := w.ownsRow base T 2 v ps.length (flat f ps)
theorem OG.nil (f : Nat → Value) (T : TypeId) (w : World) (base : Nat) : OG f T w base (.slice none 0 0) [] := World.ownsRow_nil _ _ _ _
theorem OG.arr {f : Nat → Value} {T : TypeId} {w : World} {base : Nat} {v : Value} {ps : List (Nat × Nat)} (h : OG f T w base v ps) : ∃ p c, v = .slice p ps.length c ∧ AG f w p ps ∧ ps.length ≤ c := by
  have hc : ∀ g, v.ownBlock = some g → ∀ j u, (flat f ps)[j]? = some u → w.cell? ((⟨g, 0, none⟩ : Addr).add j) = some u := fun g hg => World.ownsRow.cells h hg
  rcases h.2 with ⟨h1, h2⟩ | ⟨g, cap, cur, h1, h2, h3, h4, h5, h6, h7⟩
  · have : ps = [] := List.length_eq_zero_iff.1 h2
    subst this
    exact ⟨none, 0, h1, Or.inl rfl, Nat.le_refl _⟩
  · refine ⟨_, cap, h1, Or.inr ⟨g, 0, rfl, fun j hj => ?_⟩, h4⟩
    have e := flat_get f ps j hj
    have a := hc g (by rw [h1]; rfl) _ _ e.1
    have b := hc g (by rw [h1]; rfl) _ _ e.2
    rw [addr_add] at a b
    exact ⟨a, b⟩
theorem OG.mono {f : Nat → Value} {T : TypeId} {w : World} {base base' : Nat} {v : Value} {ps : List (Nat × Nat)} (h : OG f T w base v ps) (hb : base' ≤ base) : OG f T w base' v ps := by
  refine ⟨h.1, ?_⟩
  rcases h.2 with h' | ⟨g, cap, cur, h1, h2, h3⟩
  · exact Or.inl h'
  · exact Or.inr ⟨g, cap, cur, h1, Nat.le_trans hb h2, h3⟩
theorem OG.push {f : Nat → Value} {T : TypeId} {w : World} {base : Nat} {v : Value} {ps : List (Nat × Nat)} {a b : Nat} (h : w.ownsRow base T 2 v (ps.length + 1) (flat f ps ++ [f a, f b])) : OG f T w base v (ps ++ [(a, b)]) := by
  unfold OG
  rw [flat_app, List.length_append]
  exact h
/-- the bytes of a box: how many parts, the i-th part, are they a form -/
def bN (xs : List Int) : Nat := (xs.getD 0 0).toNat
def pt (xs : List Int) (i : Nat) : List Int := (xs.drop (1 + 16 * i)).take 16
def bHd (xs : List Int) : Bool := decide (0 < xs.length) && (decide (bN xs ≤ 32) && decide (xs.length = 1 + 16 * bN xs))
def bAll (xs : List Int) (k : Nat) : Bool := (List.range k).all (fun i => gOk (pt xs i))
def bOk (xs : List Int) : Bool := bHd xs && bAll xs (bN xs)
def bP (xs : List Int) (k : Nat) : List (Nat × Nat) := (List.range k).map (fun i => (gX (pt xs i), gY (pt xs i)))
def bL (xs : List Int) : List (Nat × Nat) := if bOk xs then bP xs (bN xs) else []
def bE (xs : List Int) : Int := if bOk xs then 0 else 130
theorem bP_len (xs : List Int) (k : Nat) : (bP xs k).length = k := by simp [bP]
theorem bP_succ (xs : List Int) (k : Nat) : bP xs (k + 1) = bP xs k ++ [(gX (pt xs k), gY (pt xs k))] := by simp [bP, List.range_succ]
theorem bP_get (xs : List Int) (n i : Nat) (h : i < n) : (bP xs n).getD i (0, 0) = (gX (pt xs i), gY (pt xs i)) := by simp [bP, List.getD, h]
theorem bAll_succ (xs : List Int) (k : Nat) : bAll xs (k + 1) = (bAll xs k && gOk (pt xs k)) := by simp [bAll, List.range_succ]
theorem bAll_le (xs : List Int) (k n : Nat) (h : k < n) (hk : gOk (pt xs k) = false) : bAll xs n = false := by
  unfold bAll
  rw [List.all_eq_false]
  exact ⟨k, List.mem_range.2 h, by rw [hk]; simp⟩
theorem pt_len (xs : List Int) (i n : Nat) (hl : xs.length = 1 + 16 * n) (hi : i < n) : (pt xs i).length = 16 := by
  unfold pt; rw [List.length_take, List.length_drop]; omega
theorem pt_wb {xs : List Int} (h : Wb xs) (i : Nat) : Wb (pt xs i) := (h.drop _).take _
theorem infF0 : (Try.prog.info? 31).map (fun i => (i.zero, i.size, i.bytes)) = some (some (.agg #[.float .f64 0, .float .f64 0]), 2, 16) := by kernel_rfl
theorem infF : ∃ i, Try.prog.info? 31 = some i ∧ i.zero = some (.agg #[.float .f64 0, .float .f64 0]) ∧ i.size = 2 ∧ i.bytes = 16 := info_parts infF0
end B8
end Go.Proofs.Ytbcjhmdkpkmieab
namespace Go.Proofs.Ytbcjhmdkpkmieab
open Go.RowKit
open Go
namespace B8
/-- an interval's form, as it is read; a box's -/
def fm (q : Nat × Nat) : List Int := by8 (Fq.rlo q.1 q.2) ++ by8 (Fq.rhi q.1 q.2)
def fms : List (Nat × Nat) → List Int
  | [] => []
  | q :: r => fm q ++ fms r
def bb (ps : List (Nat × Nat)) : List Int := (ps.length : Int) :: fms ps
def Wq (ps : List (Nat × Nat)) : Prop := ∀ j, (ps.getD j (0, 0)).1 < 18446744073709551616 ∧ (ps.getD j (0, 0)).2 < 18446744073709551616
theorem fm_len (q : Nat × Nat) : (fm q).length = 16 := by unfold fm; rw [List.length_append, by8_len, by8_len]
theorem fms_app : ∀ ps qs, fms (ps ++ qs) = fms ps ++ fms qs
  | [], qs => rfl
  | q :: r, qs => by simp only [List.cons_append, fms, fms_app r qs, List.append_assoc]
theorem fms_get : ∀ (ps : List (Nat × Nat)) (k t : Nat), k < ps.length → t < 16 → (fms ps).getD (16 * k + t) 0 = (fm (ps.getD k (0, 0))).getD t 0
  | [], k, t, h, _ => by simp at h
  | q :: r, 0, t, _, ht => by
    rw [Nat.mul_zero, Nat.zero_add]
    simp only [fms, List.getD, List.getElem?_cons_zero, Option.getD_some]
    rw [List.getElem?_append_left (by rw [fm_len]; exact ht)]
  | q :: r, k + 1, t, h, ht => by
    have ih := fms_get r k t (by simpa using h) ht
    rw [List.getD_cons_succ, ← ih]
    simp only [fms, List.getD]
    rw [List.getElem?_append_right (by rw [fm_len]; omega), fm_len, show 16 * (k + 1) + t - 16 = 16 * k + t from by omega]
theorem bb_get (ps : List (Nat × Nat)) (k t : Nat) (hk : k < ps.length) (ht : t < 16) : (bb ps).getD (1 + 16 * k + t) 0 = (fm (ps.getD k (0, 0))).getD t 0 := by
  rw [← fms_get ps k t hk ht, show 1 + 16 * k + t = (16 * k + t) + 1 from by omega]
  unfold bb
  rw [List.getD_cons_succ]
theorem putn_ (a b : Nat) (ha : a < 18446744073709551616) (hb : b < 18446744073709551616) (w : World) : Calls Try.prog 10 #[.agg #[.float .f64 a, .float .f64 b]] w fun e w' => ∃ g, e = .returned (.slice (some ⟨g, 0, none⟩) 16 16) ∧ w.heap.size ≤ g ∧ Rw w' g 16 (fm (a, b)) ∧ Kp w w' := put_ a b _ _ (Fq.read_ a b ha hb) w
end B8
end Go.Proofs.Ytbcjhmdkpkmieab
namespace Go.Proofs.Ytbcjhmdkpkmieab
open Go.RowKit
open Go
namespace B8
set_option maxRecDepth 20000 in
set_option maxHeartbeats 400000 in
theorem boxlen_ (k : Nat) (hk : k ≤ 1048576) (w : World) : Calls Try.prog 43 #[.int .i64 (k : Int)] w fun e w' => e = .returned (.int .i64 ((1 + 16 * k : Nat) : Int)) ∧ w' = w := by
  have e : ((1 + 16 * k : Nat) : Int) = 1 + (k : Int) * 16 := by omega
  rw [e]
  go_enter Try.func43, Try.ntmps43
  go_wp2
  exact bodyPost_ret (v := .int .i64 (1 + (k : Int) * 16)) (by simp [results, Try.results43, go_sem]) rfl ⟨rfl, rfl⟩
set_option maxRecDepth 20000 in
set_option maxHeartbeats 400000 in
theorem part_ (g o n c k : Nat) (hk : k ≤ 1048576) (h : 1 + 16 * k + 16 ≤ c) (w : World) : Calls Try.prog 44 #[.slice (some ⟨g, o, none⟩) n c, .int .i64 (k : Int)] w fun e w' => e = .returned (.slice (some ⟨g, o + (1 + 16 * k), none⟩) 16 16) ∧ w' = w := by
  have h1 := boxlen_ k hk
  have h2 : ∀ w : World, Calls Try.prog 29 #[.slice (some ⟨g, o, none⟩) n c, .int .i64 ((1 + 16 * k : Nat) : Int), .int .i64 16] w fun e w' => e = .returned (.slice (some ⟨g, o + (1 + 16 * k), none⟩) 16 16) ∧ w' = w := cut_ g o n c (1 + 16 * k) 16 h (by decide) (by omega)
  clear h hk
  generalize ((1 + 16 * k : Nat) : Int) = Z at h1 h2
  go_enter Try.func44, Try.ntmps44
  go_wp2_with (first | (go_at_call 43; refine (h1 _).mono ?_; rintro e w' ⟨rfl, rfl⟩) | (go_at_call 29; refine (h2 _).mono ?_; rintro e w' ⟨rfl, rfl⟩))
  exact bodyPost_ret (v := .slice (some ⟨g, o + (1 + 16 * k), none⟩) 16 16) (by simp [results, Try.results44, go_sem]) rfl ⟨rfl, rfl⟩
end B8
end Go.Proofs.Ytbcjhmdkpkmieab
namespace Go.Proofs.Ytbcjhmdkpkmieab
open Go.RowKit
open Go
namespace B8
theorem setCells_far {g b x : Nat} (hb : b ≠ g) : ∀ (vs : List Value) (o : Nat) (w : World), (w.setCells g o vs).cell? ⟨b, x, none⟩ = w.cell? ⟨b, x, none⟩
  | [], _, _ => rfl
  | _ :: vs, o, _ => (setCells_far hb vs (o + 1) _).trans (World.cell?_setCell_far _ _ _ _ (fun h => hb h.symm))
theorem copy8b (w : World) (g n o m c c' : Nat) (p : Option Addr) (xs : List Int) (f : Nat → Value) (hr : w.rowIs g 5 n f) (hx : Arr w p xs) (hl : xs.length = m) (ho : o + m ≤ n) :
    ∃ w2, (∀ ty, (Builtin.copy_ #[35, 35] ty #[.slice (some ⟨g, o, none⟩) m c', .slice p m c]).run Try.prog w = .ok (goInt m) w2) ∧
      w2.rowIs g 5 n (fun j => if o ≤ j ∧ j < o + m then .int .u8 (xs.getD (j - o) 0) else f j) ∧ (∀ W : World, W.heap.size ≤ g → Kp W w → Kp W w2) ∧ (∀ b x v, b ≠ g → w.cell? ⟨b, x, none⟩ = some v → w2.cell? ⟨b, x, none⟩ = some v) := by
  subst hl
  rcases hx with rfl | ⟨b, off, rfl, hc⟩
  · refine ⟨w, fun ty => run_copy_none w 35 35 ty 5 _ _ _ _ _ _ Try.underlying35 siz8 (by simp), hr.congr (fun j _ => by rw [if_neg (by simp)]), fun W _ h => h, fun _ _ _ _ h => h⟩
  · refine ⟨w.setCells g o (xs.map (Value.int .u8)), fun ty => ?_, ?_, fun W hW h => setCells_kp hW _ _ _ h, fun b x v hb h => (setCells_far hb _ _ _).trans h⟩
    · have := run_copy_cells (P := Try.prog) w 35 35 ty 5 g o xs.length c' ⟨b, off, none⟩ xs.length c (xs.map (Value.int .u8)) Try.underlying35 siz8 (by simp)
        (fun j v hv => by
          have hj : j < xs.length := by
            have := List.getElem?_eq_some_iff.1 hv
            simpa using this.1
          rw [addr_add, hc j hj]
          simpa [List.getD, hj] using hv)
        (fun j hj => by rw [hr.cell (by simp at hj; omega)]; rfl) (fun j _ => hr.frozen _)
        (fun v hv => by obtain ⟨x, _, rfl⟩ := List.mem_map.1 hv; rfl)
      simpa using this
    · refine World.rowIs.congr (setCells_row (xs.map (Value.int .u8)) o w f hr) (fun j _ => ?_)
      by_cases c : o ≤ j ∧ j < o + xs.length
      · rw [if_pos c, if_pos (by simpa using c)]; simp [List.getD, show j - o < xs.length from by omega]
      · rw [if_neg c, if_neg (by simpa using c)]
set_option maxRecDepth 20000 in
set_option maxHeartbeats 2000000 in
theorem putboxY_ (p : Option Addr) (c : Nat) (ps : List (Nat × Nat)) (w : World) (hx : AG FLV w p ps) (hq : Wq ps) (lx : ps.length ≤ 32) : Calls Try.prog 19 #[.slice p ps.length c] w fun e w' => ∃ G, e = .returned (.tuple #[.slice (some ⟨G, 0, none⟩) (1 + 16 * ps.length) (1 + 16 * ps.length), .int .i64 0]) ∧ w.heap.size ≤ G ∧ Rw w' G (1 + 16 * ps.length) (bb ps) ∧ Kp w w' := by
  obtain ⟨N, hN⟩ : ∃ N, N = ps.length := ⟨_, rfl⟩
  obtain ⟨M, hM⟩ : ∃ M, M = 1 + 16 * N := ⟨_, rfl⟩
  rw [← hN] at lx ⊢
  rw [← hM]
  have HX : Hid (AG FLV w p ps ∧ Wq ps) := ⟨hx, hq⟩
  have HN : Hid (N = ps.length ∧ M = 1 + 16 * N) := ⟨hN, hM⟩
  have hwN : IntKind.u8.wrap (N : Int) = (N : Int) := by rw [IntKind.wrap_u8]; omega
  have n2 : ¬ (32 : Int) < (N : Int) := by omega
  have hbl := boxlen_ N (by omega)
  rw [← hM] at hbl
  have hmk := mk8 M (by omega)
  have hM0 : 0 < M := by omega
  have hr0 : (w.alloc (.cells ((madeCells #[.int .u8 0] M).setIfInBounds 0 (.int .u8 (N : Int))) 5)).rowIs w.heap.size 5 M (fun j => .int .u8 (if j < 1 + 16 * 0 then (bb ps).getD j 0 else 0)) := by
    have h := World.rowIs_alloc w ((madeCells #[.int .u8 0] M).setIfInBounds 0 (.int .u8 (N : Int))) 5 (fun j => .int .u8 (if j < 1 + 16 * 0 then (bb ps).getD j 0 else 0)) (fun i hi => by
      rw [Array.size_setIfInBounds, size_madeCells] at hi
      by_cases c0 : i = 0
      · subst c0
        rw [Array.getElem?_setIfInBounds_self_of_lt (by rw [size_madeCells]; exact hi), if_pos (by omega), hN]; rfl
      · rw [Array.getElem?_setIfInBounds_ne (by omega), if_neg (by omega)]
        simp [madeCells, hi, Nat.mod_one])
    rw [Array.size_setIfInBounds, size_madeCells] at h
    exact h
  have e00 := (World.rowIs_made w (.int .u8 0) M 5).cell (i := 0) hM0
  have f00 := (World.rowIs_made w (.int .u8 0) M 5).frozen 0
  have hk0 : Kp w (w.alloc (.cells ((madeCells #[.int .u8 0] M).setIfInBounds 0 (.int .u8 (N : Int))) 5)) := (Kp.refl w).alloc _
  obtain ⟨G, hG⟩ : ∃ G, G = w.heap.size := ⟨_, rfl⟩
  rw [← hG] at hr0
  have HG : Hid (w.heap.size ≤ G) := by rw [hG]; exact Nat.le_refl _
  clear hN hM hx hq
  go_enter Try.func19, Try.ntmps19
  go_wp2_with (first | (go_at_call 43; refine (hbl _).mono ?_; rintro e w' ⟨rfl, hw9⟩; rw [hw9]; clear hw9))
  rw [← hG]
  generalize w.alloc (.cells ((madeCells #[.int .u8 0] M).setIfInBounds 0 (.int .u8 (N : Int))) 5) = w9 at hr0 hk0 ⊢
  clear hG e00 f00 hmk hbl
  go_loopw [21] (fun i wr => ∃ k : Nat, k ≤ N ∧ i = .int .i64 k ∧ wr.rowIs G 5 M (fun j => .int .u8 (if j < 1 + 16 * k then (bb ps).getD j 0 else 0)) ∧ Kp w wr) (fun i _ => N - (intOf i).toNat)
  case atStart => exact ⟨0, Nat.zero_le _, rfl, hr0, hk0⟩
  case round =>
    obtain ⟨k, hk, rfl, hrow, hkp⟩ := hrel
    clear hr0 hk0
    obtain ⟨hN, hM⟩ := HN.out
    by_cases ck : k < N
    · obtain ⟨b, off, rfl, hc2⟩ := HX.out.1.at (k := k) (by omega)
      have hqj := HX.out.2 k
      have e1 : wr.cell? ⟨b, off + k * 2, none⟩ = some (.float .f64 (ps.getD k (0, 0)).1) := kkeep hkp (hc2 k (by omega)).1
      have e2 : wr.cell? ⟨b, off + k * 2 + 1, none⟩ = some (.float .f64 (ps.getD k (0, 0)).2) := kkeep hkp (hc2 k (by omega)).2
      have hput := putn_ (ps.getD k (0, 0)).1 (ps.getD k (0, 0)).2 hqj.1 hqj.2
      have hF := fm_len ((ps.getD k (0, 0)).1, (ps.getD k (0, 0)).2)
      have HB : Hid (∀ t, t < 16 → (bb ps).getD (1 + 16 * k + t) 0 = (fm ((ps.getD k (0, 0)).1, (ps.getD k (0, 0)).2)).getD t 0) := fun t ht => bb_get ps k t (by omega) ht
      have hpart := part_ G 0 M M k (by omega) (by omega)
      rw [Nat.zero_add] at hpart
      generalize (ps.getD k (0, 0)).1 = Y1 at e1 hput hF HB
      generalize (ps.getD k (0, 0)).2 = Y2 at e2 hput hF HB
      generalize fm (Y1, Y2) = F9 at hput hF HB
      have hGw := HG.out
      have hkM : 1 + 16 * k + 16 ≤ M := by omega
      clear hc2 hqj HX hN hM HN HG
      go_upto_region 8 with fail
      have sx := (Fq.H2.new wr (.float .f64 Y1) (.float .f64 Y2) 31)
      have hkW := hkp.alloc (.cells #[.float .f64 Y1, .float .f64 Y2] 31)
      have hrowW := rowIs_grown hrow ((Kp.refl wr).alloc (.cells #[.float .f64 Y1, .float .f64 Y2] 31))
      have hBG : wr.heap.size ≠ G := by have := World.rowIs.lt hrow; omega
      generalize wr.alloc (.cells #[.float .f64 Y1, .float .f64 Y2] 31) = W at sx hkW hrowW ⊢
      generalize wr.heap.size = B at sx hBG ⊢
      obtain ⟨x0, x1, x2, x3⟩ := id sx
      clear hrow hkp e1 e2 sx
      go_region_held3 (fun w' => w'.cell? ⟨B, 0, none⟩ = some (.float .f64 Y1) ∧ w'.cell? ⟨B, 1, none⟩ = some (.float .f64 Y2)) (first | (refine ⟨kkeep (W := W) ?_ x0, kkeep (W := W) ?_ x1⟩ <;> ((repeat (first | with_reducible exact ka3 | with_reducible exact ka2 | with_reducible exact Kp.refl _ | with_reducible refine Kp.drew ?_)); done)) | exact ⟨z0, z1⟩) (first | (go_at_call 10; refine (hput _).mono ?_; rintro e v2 ⟨g, rfl, hg, hR, k2⟩; have ka2 : Kp W v2 := Kp.trans ?qa k2; (case qa => ((repeat (first | with_reducible exact ka3 | with_reducible exact ka2 | with_reducible exact Kp.refl _ | with_reducible refine Kp.drew ?_)); done)); obtain ⟨v3, hcp, hr3, hk3, hfar⟩ := copy8b v2 G M (1 + 16 * k) 16 16 16 (some ⟨g, 0, none⟩) F9 _ (rowIs_grown hrowW ka2) (arr_all hR hF) hF (by omega); have hK3 : Kp w v3 := hk3 w hGw (Kp.trans hkW ka2); have z0 : v3.cell? ⟨B, 0, none⟩ = some (.float .f64 Y1) := hfar _ _ _ hBG (kkeep ka2 x0); have z1 : v3.cell? ⟨B, 1, none⟩ = some (.float .f64 Y2) := hfar _ _ _ hBG (kkeep ka2 x1); clear hk3) | (go_at_call 44; refine (hpart _).mono ?_; rintro e w' ⟨rfl, rfl⟩))
      have hrF : v3.rowIs G 5 M (fun j => .int .u8 (if j < 1 + 16 * (k + 1) then (bb ps).getD j 0 else 0)) := World.rowIs.congr hr3 (fun j hj => by
        by_cases c1 : 1 + 16 * k ≤ j ∧ j < 1 + 16 * k + 16
        · rw [if_pos c1, if_pos (by omega)]
          have := HB.out (j - (1 + 16 * k)) (by omega)
          rw [show 1 + 16 * k + (j - (1 + 16 * k)) = j from by omega] at this
          rw [this]
        · rw [if_neg c1]
          by_cases c2 : j < 1 + 16 * k
          · rw [if_pos c2, if_pos (by omega)]
          · rw [if_neg c2, if_neg (by omega)])
      clear hr3 hcp hfar ka2 k2 hR hrowW HB hput hpart
      go_wp2
      exact ⟨⟨k + 1, by omega, by go_num, hrF, hK3⟩, by simp [intOf]; omega⟩
    · have hkN : k = N := by omega
      subst hkN
      have hR : Rw wr G M (bb ps) := World.rowIs.congr hrow (fun j hj => by rw [if_pos (by omega)])
      have hle := HG.out
      clear HX HN hN hM hrow HG
      go_wp2
      exact bodyPost_ret (v := .tuple #[.slice (some ⟨G, 0, none⟩) M M, .int .i64 0]) (by simp [results, Try.results19, go_sem] <;> simp only [*]) rfl ⟨G, rfl, hle, hR, hkp⟩
end B8
end Go.Proofs.Ytbcjhmdkpkmieab
namespace Go.Proofs.Ytbcjhmdkpkmieab
open Go.RowKit
open Go
namespace B8
/-- a row of pairs -/
def RG (w : World) (g n : Nat) (q : Nat → Nat × Nat) : Prop := w.rowIs g 31 (n * 2) (fun j => if j % 2 = 0 then FLV (q (j / 2)).1 else FLV (q (j / 2)).2)
theorem RG.congr {w : World} {g n : Nat} {q r : Nat → Nat × Nat} (h : RG w g n q) (e : ∀ i, i < n → q i = r i) : RG w g n r := World.rowIs.congr h (fun j hj => by rw [e (j / 2) (by omega)])
theorem RG.grown {w w' : World} {g n : Nat} {q : Nat → Nat × Nat} (h : RG w g n q) (k : Kp w w') : RG w' g n q := rowIs_grown h k
theorem RG.put {w : World} {g n : Nat} {q : Nat → Nat × Nat} (h : RG w g n q) (k a b : Nat) : RG ((w.setCell ⟨g, k * 2, none⟩ (.float .f64 a)).setCell ⟨g, k * 2 + 1, none⟩ (.float .f64 b)) g n (fun i => if i = k then (a, b) else q i) := by
  refine World.rowIs.congr (World.rowIs.set (World.rowIs.set h (k * 2) (.float .f64 a)) (k * 2 + 1) (.float .f64 b)) (fun j _ => ?_)
  by_cases c1 : j = k * 2 + 1
  · subst c1
    rw [if_pos rfl, if_neg (by omega), show (k * 2 + 1) / 2 = k from by omega]; simp [FLV]
  · rw [if_neg c1]
    by_cases c2 : j = k * 2
    · subst c2
      rw [if_pos rfl, if_pos (by omega), show (k * 2) / 2 = k from by omega]; simp [FLV]
    · have c3 : ¬ j / 2 = k := by omega
      rw [if_neg c2]; simp [c3]
theorem RG.ag {w : World} {g n : Nat} {q : Nat → Nat × Nat} (h : RG w g n q) (ps : List (Nat × Nat)) (hl : ps.length = n) (e : ∀ i, i < n → q i = ps.getD i (0, 0)) : AG FLV w (some ⟨g, 0, none⟩) ps := Or.inr ⟨g, 0, rfl, fun j hj => by
  have a := World.rowIs.cell h (i := j * 2) (by omega)
  have b := World.rowIs.cell h (i := j * 2 + 1) (by omega)
  rw [if_pos (by omega), show (j * 2) / 2 = j from by omega, e j (by omega)] at a
  rw [if_neg (by omega), show (j * 2 + 1) / 2 = j from by omega, e j (by omega)] at b
  rw [Nat.zero_add]
  exact ⟨a, b⟩⟩
theorem mkI (n : Nat) (h : n ≤ 1048576) (w : World) : (Instr.makeSlice 50 (.int .i64 (n : Int)) (.int .i64 (n : Int))).run Try.prog w = .ok (.slice (some ⟨w.heap.size, 0, none⟩) n n) (w.alloc (.cells (madeCells #[.float .f64 0, .float .f64 0] (n * 2)) 31)) := by
  obtain ⟨i0, hi0, hi1, hi2, hi3⟩ := infF
  have hr := run_make (P := Try.prog) w 50 31 i0 _ Try.underlying50 hi0 hi1 .i64 .i64 n n (by omega) (Int.le_refl _) (by rw [hi3]; omega) (by omega)
  simp only [Int.toNat_natCast, hi2] at hr
  exact hr
theorem RG.made (w : World) (n : Nat) : RG (w.alloc (.cells (madeCells #[.float .f64 0, .float .f64 0] (n * 2)) 31)) w.heap.size n (fun _ => (0, 0)) := by
  have h := World.rowIs_alloc w (madeCells #[.float .f64 0, .float .f64 0] (n * 2)) 31 (fun j => if j % 2 = 0 then FLV ((fun _ => (0, 0)) (j / 2)).1 else FLV ((fun _ => (0, 0)) (j / 2)).2) (fun i hi => by
    rw [size_madeCells] at hi
    have : i % 2 = 0 ∨ i % 2 = 1 := by omega
    rcases this with h | h <;> simp [madeCells, hi, h, FLV])
  rw [size_madeCells] at h
  exact h
set_option maxRecDepth 20000 in
set_option maxHeartbeats 1000000 in
theorem getboxE_ (p : Option Addr) (c : Nat) (w : World) : Calls Try.prog 21 #[.slice p 0 c] w fun e w' => e = .returned (.tuple #[.slice none 0 0, .int .i64 130]) ∧ Kp w w' := by
  go_enter Try.func21, Try.ntmps21
  go_wp2
  exact bodyPost_ret (v := .tuple #[.slice none 0 0, .int .i64 130]) (by simp [results, Try.results21, go_sem]) rfl ⟨rfl, Kp.refl _⟩
set_option maxRecDepth 20000 in
set_option maxHeartbeats 1000000 in
theorem getboxH_ (b off N c M : Nat) (hD1 : M < 256) (hN : 0 < N) (hN2 : N ≤ 1048576) (w : World) (hc : w.cell? ⟨b, off, none⟩ = some (.int .u8 (M : Int))) (h : 32 < M ∨ N ≠ 1 + 16 * M) : Calls Try.prog 21 #[.slice (some ⟨b, off, none⟩) N c] w fun e w' => e = .returned (.tuple #[.slice none 0 0, .int .i64 130]) ∧ Kp w w' := by
  have hwD : IntKind.i64.wrap (M : Int) = (M : Int) := by rw [IntKind.wrap_i64]; omega
  have n0 : ((N : Int) == 0) = false := by simp; omega
  by_cases c1 : 32 < M
  · have c2 : (32 : Int) < (M : Int) := by omega
    clear h c1
    go_enter Try.func21, Try.ntmps21
    go_wp2
    exact bodyPost_ret (v := .tuple #[.slice none 0 0, .int .i64 130]) (by simp [results, Try.results21, go_sem]) rfl ⟨rfl, Kp.refl _⟩
  · have c2 : ¬ (32 : Int) < (M : Int) := by omega
    have hb := boxlen_ M (by omega)
    have h2 : ((N : Int) != ((1 + 16 * M : Nat) : Int)) = true := by simp; omega
    generalize ((1 + 16 * M : Nat) : Int) = Z at hb h2
    clear h c1
    go_enter Try.func21, Try.ntmps21
    go_wp2_with (first | (go_at_call 43; refine (hb _).mono ?_; rintro e w' ⟨rfl, rfl⟩))
    exact bodyPost_ret (v := .tuple #[.slice none 0 0, .int .i64 130]) (by simp [results, Try.results21, go_sem]) rfl ⟨rfl, Kp.refl _⟩
set_option maxRecDepth 20000 in
set_option maxHeartbeats 2000000 in
theorem getboxY_ (b off N M c : Nat) (xs : List Int) (w : World) (hx : Arr w (some ⟨b, off, none⟩) xs) (hl : xs.length = N) (hw : Wb xs) (hc : N ≤ c) (hM : M ≤ 32) (hM2 : xs.getD 0 0 = (M : Int)) (hN : N = 1 + 16 * M) (EV : Int) (LV : List (Nat × Nat)) (hEV : EV = if bAll xs M then 0 else 130) (hLV : LV = if bAll xs M then bP xs M else []) :
    Calls Try.prog 21 #[.slice (some ⟨b, off, none⟩) N c] w fun e w' => ∃ p' d, e = .returned (.tuple #[.slice p' LV.length d, .int .i64 EV]) ∧ AG FLV w' p' LV ∧ LV.length ≤ d ∧ (∀ a, p' = some a → w.heap.size ≤ a.block) ∧ Kp w w' := by
  have HV : Hid (EV = (if bAll xs M then 0 else 130) ∧ LV = (if bAll xs M then bP xs M else [])) := ⟨hEV, hLV⟩
  clear hEV hLV
  obtain ⟨b', off', he, hcell⟩ := hx.at (k := 0) (by omega)
  obtain ⟨rfl, rfl⟩ : b = b' ∧ off = off' := by simpa using he
  have hc0 := hcell 0 (by omega)
  rw [hM2, Nat.add_zero] at hc0
  have hwD : IntKind.i64.wrap (M : Int) = (M : Int) := by rw [IntKind.wrap_i64]; omega
  have n0 : ((N : Int) == 0) = false := by simp; omega
  have n2 : ¬ (32 < (M : Int)) := by omega
  have hN0 : 0 < N := by omega
  have hb := boxlen_ M (by omega)
  have n1 : ((N : Int) != ((1 + 16 * M : Nat) : Int)) = false := by simp; omega
  generalize ((1 + 16 * M : Nat) : Int) = Z at hb n1
  have hmk := mkI M (by omega)
  have hr0 := RG.made w M
  have hg0 : Kp w (w.alloc (.cells (madeCells #[.float .f64 0, .float .f64 0] (M * 2)) 31)) := (Kp.refl w).alloc _
  obtain ⟨G, hG⟩ : ∃ G, G = w.heap.size := ⟨_, rfl⟩
  rw [← hG] at hr0
  have HGG : Hid (G = w.heap.size) := hG
  have HGT : Hid (∀ (k : Nat) (W : World), k < M → Kp w W → Calls Try.prog 9 #[.slice (some ⟨b, off + (1 + 16 * k), none⟩) 16 16] W fun e w' => e = .returned (.tuple #[.agg #[.float .f64 (gX (pt xs k)), .float .f64 (gY (pt xs k))], .int .i64 (gE (pt xs k))]) ∧ Kp W w') := by
    show ∀ (k : Nat) (W : World), k < M → Kp w W → Calls Try.prog 9 #[.slice (some ⟨b, off + (1 + 16 * k), none⟩) 16 16] W fun e w' => e = .returned (.tuple #[.agg #[.float .f64 (gX (pt xs k)), .float .f64 (gY (pt xs k))], .int .i64 (gE (pt xs k))]) ∧ Kp W w'
    intro k W hk kk
    exact get_ _ 16 16 (pt xs k) W ((Arr.part hcell (1 + 16 * k) 16).grown kk) (pt_len xs k M (by omega) hk) (pt_wb hw k) (Nat.le_refl _)
  have HPT : Hid (∀ (k : Nat) (W : World), k < M → Calls Try.prog 44 #[.slice (some ⟨b, off, none⟩) N c, .int .i64 (k : Int)] W fun e w' => e = .returned (.slice (some ⟨b, off + (1 + 16 * k), none⟩) 16 16) ∧ w' = W) := by
    show ∀ (k : Nat) (W : World), k < M → Calls Try.prog 44 #[.slice (some ⟨b, off, none⟩) N c, .int .i64 (k : Int)] W fun e w' => e = .returned (.slice (some ⟨b, off + (1 + 16 * k), none⟩) 16 16) ∧ w' = W
    intro k W hk
    exact part_ b off N c k (by omega) (by omega) W
  have HM : Hid (M ≤ 32) := hM
  clear hx hl hw hM2 he hcell hN hM hc
  go_enter Try.func21, Try.ntmps21
  go_wp2_with (first | (go_at_call 43; refine (hb _).mono ?_; rintro e w' ⟨rfl, hw9⟩; rw [hw9]; clear hw9))
  rw [← hG]
  clear hG hmk hb
  go_loopw [29] (fun i wr => ∃ k : Nat, k ≤ M ∧ i = .int .i64 k ∧ bAll xs k = true ∧ RG wr G M (fun i => if i < k then (gX (pt xs i), gY (pt xs i)) else (0, 0)) ∧ Kp w wr) (fun i _ => M - (intOf i).toNat)
  case atStart => exact ⟨0, Nat.zero_le _, rfl, rfl, hr0.congr (fun i _ => by rw [if_neg (by omega)]), hg0⟩
  case round =>
    obtain ⟨k, hk, rfl, hall, hrow, hkp⟩ := hrel
    clear hr0 hg0
    by_cases ck : k < M
    · have hg := HGT.out k wr ck hkp
      have hp := HPT.out k wr ck
      have HA : Hid (bAll xs (k + 1) = (bAll xs k && gOk (pt xs k))) := bAll_succ xs k
      have HF : Hid (gOk (pt xs k) = false → bAll xs M = false) := fun h => bAll_le xs k M ck h
      have HE : gE (pt xs k) = if gOk (pt xs k) then 0 else 130 := rfl
      rw [HE] at hg
      generalize off + (1 + 16 * k) = o2 at hg hp
      have hM32 := HM.out
      clear HE HGT HPT
      cases hok : gOk (pt xs k)
      · rw [hok] at hg
        have hAM : Hid (EV = 130 ∧ LV = []) := by
          have h := HV.out
          rw [HF.out hok] at h
          exact h
        generalize gX (pt xs k) = X at hg
        generalize gY (pt xs k) = Y at hg
        simp only [Bool.false_eq_true, if_false] at hg
        clear HV HA HF hok hall hrow HGG HM
        go_wp2_with (first | (go_at_call 44; refine hp.mono ?_; rintro e w' ⟨rfl, hw9⟩; rw [hw9]; clear hw9) | (go_at_call 9; refine hg.mono ?_; rintro e w1 ⟨rfl, g1⟩; have hk1 := Kp.trans hkp g1))
        exact bodyPost_ret (v := .tuple #[.slice none 0 0, .int .i64 130]) (by simp [results, Try.results21, go_sem]) rfl ⟨none, 0, by rw [hAM.out.1, hAM.out.2]; rfl, by rw [hAM.out.2]; exact Or.inl rfl, by rw [hAM.out.2]; exact Nat.le_refl _, (by intro a h; cases h), by exact hk1.alloc _⟩
      · rw [hok] at hg
        have hA1 : Hid (bAll xs (k + 1) = true) := by
          show bAll xs (k + 1) = true
          rw [HA.out, hall, hok]; rfl
        have HR1 : Hid (∀ W : World, RG W G M (fun i => if i < k then (gX (pt xs i), gY (pt xs i)) else (0, 0)) → RG ((W.setCell ⟨G, k * 2, none⟩ (.float .f64 (gX (pt xs k)))).setCell ⟨G, k * 2 + 1, none⟩ (.float .f64 (gY (pt xs k)))) G M (fun i => if i < k + 1 then (gX (pt xs i), gY (pt xs i)) else (0, 0))) := by
          show ∀ W : World, RG W G M (fun i => if i < k then (gX (pt xs i), gY (pt xs i)) else (0, 0)) → RG ((W.setCell ⟨G, k * 2, none⟩ (.float .f64 (gX (pt xs k)))).setCell ⟨G, k * 2 + 1, none⟩ (.float .f64 (gY (pt xs k)))) G M (fun i => if i < k + 1 then (gX (pt xs i), gY (pt xs i)) else (0, 0))
          intro W h
          refine (h.put k (gX (pt xs k)) (gY (pt xs k))).congr (fun i _ => ?_)
          by_cases c1 : i = k
          · subst c1; rw [if_pos rfl, if_pos (by omega)]
          · rw [if_neg c1]
            by_cases c2 : i < k
            · rw [if_pos c2, if_pos (by omega)]
            · rw [if_neg c2, if_neg (by omega)]
        obtain ⟨X, hX⟩ : ∃ X, X = gX (pt xs k) := ⟨_, rfl⟩
        obtain ⟨Y, hY⟩ : ∃ Y, Y = gY (pt xs k) := ⟨_, rfl⟩
        rw [← hX, ← hY] at hg HR1
        simp only [if_true] at hg
        have HRW : Hid (RG wr G M (fun i => if i < k then (gX (pt xs i), gY (pt xs i)) else (0, 0))) := hrow
        have hlt := World.rowIs.lt hrow
        have hGw : w.heap.size ≤ G := by rw [HGG.out]; exact Nat.le_refl _
        clear HV HA HF hok hall hX hY hrow HGG HM
        go_wp2_with (first | (go_at_call 44; refine hp.mono ?_; rintro e w' ⟨rfl, hw9⟩; rw [hw9]; clear hw9))
        refine hg.mono ?_
        rintro e w1 ⟨rfl, g1⟩
        have hk1 := (Kp.trans hkp g1).alloc (.cells #[.float .f64 X, .float .f64 Y] 31)
        have hrw1 : RG (w1.alloc (.cells #[.float .f64 X, .float .f64 Y] 31)) G M (fun i => if i < k then (gX (pt xs i), gY (pt xs i)) else (0, 0)) := HRW.out.grown (g1.alloc _)
        have c1 := World.rowIs.cell hrw1 (i := k * 2) (by omega)
        have c2 := World.rowIs.cell hrw1 (i := k * 2 + 1) (by omega)
        have c3 := World.rowIs.frozen hrw1 (k * 2)
        have c4 := World.rowIs.frozen hrw1 (k * 2 + 1)
        have HR2 : Hid (RG (((w1.alloc (.cells #[.float .f64 X, .float .f64 Y] 31)).setCell ⟨G, k * 2, none⟩ (.float .f64 X)).setCell ⟨G, k * 2 + 1, none⟩ (.float .f64 Y)) G M (fun i => if i < k + 1 then (gX (pt xs i), gY (pt xs i)) else (0, 0))) := HR1.out _ hrw1
        have hsz1 := Below.size g1
        have hne : G ≠ w1.heap.size := by omega
        generalize (if k * 2 % 2 = 0 then FLV ((fun i => if i < k then (gX (pt xs i), gY (pt xs i)) else (0, 0)) (k * 2 / 2)).1 else FLV ((fun i => if i < k then (gX (pt xs i), gY (pt xs i)) else (0, 0)) (k * 2 / 2)).2) = V1 at c1
        generalize (if (k * 2 + 1) % 2 = 0 then FLV ((fun i => if i < k then (gX (pt xs i), gY (pt xs i)) else (0, 0)) ((k * 2 + 1) / 2)).1 else FLV ((fun i => if i < k then (gX (pt xs i), gY (pt xs i)) else (0, 0)) ((k * 2 + 1) / 2)).2) = V2 at c2
        clear hrw1 HR1 HRW hg hp
        go_wp2
        exact ⟨⟨k + 1, by omega, by go_num, hA1.out, HR2.out, (hk1.setCell hGw _).setCell hGw _⟩, by simp [intOf]; omega⟩
    · have hkM : k = M := by omega
      subst hkM
      have HAL : Hid (EV = 0 ∧ LV = bP xs k) := by
        have h := HV.out
        rw [hall] at h
        exact h
      have hag : Hid (AG FLV wr (some ⟨G, 0, none⟩) (bP xs k)) := RG.ag hrow (bP xs k) (bP_len xs k) (fun i hi => by rw [if_pos hi, bP_get xs k i hi])
      have hlen := bP_len xs k
      have HGW : Hid (w.heap.size ≤ G) := by
        show w.heap.size ≤ G
        rw [HGG.out]; exact Nat.le_refl _
      clear HGT HPT hall HV hrow HGG
      go_wp2
      exact bodyPost_ret (v := .tuple #[.slice (some ⟨G, 0, none⟩) k k, .int .i64 0]) (by simp [results, Try.results21, go_sem] <;> simp only [*]) rfl ⟨some ⟨G, 0, none⟩, k, by rw [HAL.out.1, HAL.out.2, bP_len], by rw [HAL.out.2]; exact hag.out, by rw [HAL.out.2, bP_len]; exact Nat.le_refl _, (by intro a h; cases h; exact HGW.out), hkp⟩
end B8
end Go.Proofs.Ytbcjhmdkpkmieab
namespace Go.Proofs.Ytbcjhmdkpkmieab
open Go.RowKit
open Go
namespace B8
theorem getbox_ (p : Option Addr) (c N : Nat) (xs : List Int) (w : World) (hx : Arr w p xs) (hl : xs.length = N) (hw : Wb xs) (hc : N ≤ c) (lx : N ≤ 1048576) : Calls Try.prog 21 #[.slice p N c] w fun e w' => ∃ p' d, e = .returned (.tuple #[.slice p' (bL xs).length d, .int .i64 (bE xs)]) ∧ AG FLV w' p' (bL xs) ∧ (bL xs).length ≤ d ∧ (∀ a, p' = some a → w.heap.size ≤ a.block) ∧ Kp w w' := by
  by_cases h0 : N = 0
  · have hb : bOk xs = false := by unfold bOk bHd; rw [hl, h0]; rfl
    unfold bE bL
    rw [hb, h0]
    exact (getboxE_ p c w).mono fun e w' h => ⟨none, 0, h.1, Or.inl rfl, Nat.le_refl _, (by intro a h; cases h), h.2⟩
  · obtain ⟨b, off, rfl, hcell⟩ := hx.at (k := 0) (by omega)
    have hc0 := hcell 0 (by omega)
    rw [Nat.add_zero] at hc0
    have hD := hw 0
    obtain ⟨M, hM⟩ := Int.eq_ofNat_of_zero_le hD.1
    have hbn : bN xs = M := by unfold bN; rw [hM]; rfl
    by_cases h1 : M ≤ 32 ∧ N = 1 + 16 * M
    · have hh : bHd xs = true := by unfold bHd; rw [hbn, hl, decide_eq_true (by omega : 0 < N), decide_eq_true h1.1, decide_eq_true h1.2]; rfl
      refine getboxY_ b off N M c xs w hx hl hw hc h1.1 hM h1.2 _ _ ?_ ?_
      · unfold bE bOk; rw [hh, hbn, Bool.true_and]
      · unfold bL bOk; rw [hh, hbn, Bool.true_and]
    · have hh : bOk xs = false := by
        unfold bOk bHd
        rw [hbn, hl]
        by_cases a : M ≤ 32
        · rw [decide_eq_false (fun e => h1 ⟨a, e⟩ : ¬ N = 1 + 16 * M)]; simp
        · rw [decide_eq_false a]; simp
      unfold bE bL
      rw [hh]
      rw [hM] at hc0 hD
      have g := getboxH_ b off N c M (by omega) (by omega) lx w hc0 (by omega)
      exact g.mono fun e w' h => ⟨none, 0, h.1, Or.inl rfl, Nat.le_refl _, (by intro a h; cases h), h.2⟩
end B8
end Go.Proofs.Ytbcjhmdkpkmieab
namespace Go.Proofs.Ytbcjhmdkpkmieab
open Go.RowKit
open Go
namespace B8
theorem snd_pla (a b : Nat) (ha : a < 18446744073709551616) (hb : b < 18446744073709551616) : Fq.snd (Fq.pla a) (Fq.pla b) = Fq.snd a b := by
  have key : ∀ x : Nat, x < 18446744073709551616 → ∃ n m n2, m < 9223372036854775808 ∧ x = Fq.wD n m ∧ Fq.pla x = Fq.wD n2 m ∧ Fq.plz n m = Fq.plz n2 m ∧ (n2 = n ∨ m = 0) := by
    intro x hx
    obtain ⟨n, m, hm, rfl⟩ := Fq.exD x hx
    by_cases c : Fq.wD n m = 9223372036854775808
    · have h : n = true ∧ m = 0 := by
        unfold Fq.wD at c
        cases n <;> simp at c <;> simp <;> omega
      refine ⟨n, m, false, hm, rfl, ?_, ?_, Or.inr h.2⟩
      · unfold Fq.pla; rw [if_pos c, h.2]; rfl
      · rw [h.1, h.2]; rfl
    · exact ⟨n, m, n, hm, rfl, by unfold Fq.pla; rw [if_neg c], rfl, Or.inl rfl⟩
  obtain ⟨n, m, n2, hm, e1, e2, e3, e4⟩ := key a ha
  obtain ⟨n', m', n2', hm', e1', e2', e3', e4'⟩ := key b hb
  rw [e2, e2', e1, e1', Fq.snd_w n2 n2' m m' hm hm', Fq.snd_w n n' m m' hm hm', e3, e3']
  rcases e4 with rfl | rfl <;> rcases e4' with rfl | rfl <;> simp
theorem pla_eq (a k : Nat) (h0 : k ≠ 0) (hT : k ≠ 9223372036854775808) : Fq.pla a = k ↔ a = k := by
  unfold Fq.pla
  split <;> omega
theorem rd_snd (a b : Nat) (L H : Int) (h : Rd a b L H) : Fq.snd a b = !decide (L = 9218868437227405312) := by
  have e1 := h.2.2.2.1
  have hL := pw_inj L 9218868437227405312 h.vd.lo (by unfold BdZ; omega)
  rw [pw_I] at hL
  by_cases c : Fq.snd a b = true
  · have n1 : a ≠ 9218868437227405312 := by intro hh; rw [hh] at c; simp [Fq.snd] at c
    have e : Fq.rlo a b = Fq.pla a := by simp [Fq.rlo, c]
    rw [c, decide_eq_false (fun hh => n1 ((pla_eq a 9218868437227405312 (by decide) (by decide)).1 (by rw [← e, e1, hh]; exact pw_I)))]; rfl
  · have c : Fq.snd a b = false := by simpa using c
    have e : Fq.rlo a b = 9218868437227405312 := by simp [Fq.rlo, c]
    rw [c, decide_eq_true (hL.1 (by rw [← e1, e]))]; rfl
theorem rd_pla (a b : Nat) (L H : Int) (h : Rd a b L H) (c : L ≠ 9218868437227405312) : Fq.pla a = pw L ∧ Fq.pla b = pw H := by
  have hs := rd_snd a b L H h
  rw [decide_eq_false c] at hs
  have e1 := h.2.2.2.1
  have e2 := h.2.2.2.2
  rw [← e1, ← e2]
  simp [Fq.rlo, Fq.rhi, hs]
theorem vld_pla (a b : Nat) (L H : Int) (h : Rd a b L H) : Fq.vld (Fq.pla a) (Fq.pla b) = (!decide (L = 9218868437227405312) || decide (a = 9218868437227405312 ∧ b = 18442240474082181120)) := by
  have n1 : Fq.pla a ≠ 9223372036854775808 := by unfold Fq.pla; split <;> omega
  have n2 : Fq.pla b ≠ 9223372036854775808 := by unfold Fq.pla; split <;> omega
  unfold Fq.vld
  rw [snd_pla a b h.1 h.2.1, rd_snd a b L H h, decide_eq_false n1, decide_eq_false n2, show decide (Fq.pla a = 9218868437227405312 ∧ Fq.pla b = 18442240474082181120) = decide (a = 9218868437227405312 ∧ b = 18442240474082181120) from by
    congr 1; apply propext
    rw [pla_eq a 9218868437227405312 (by decide) (by decide), pla_eq b 18442240474082181120 (by decide) (by decide)]]
  cases decide (L = 9218868437227405312) <;> cases decide (a = 9218868437227405312 ∧ b = 18442240474082181120) <;> rfl
/-- is a decorated interval valid? -/
def vdD (a b : Nat) (D : Int) : Bool := decide (a = 9218868437227405312 ∧ b = 18442240474082181120 ∧ D = 0) || (Fq.vld a b && (decide (D = 4) || (!(decide (a = 9218868437227405312 ∧ b = 18442240474082181120)) && (decide (D = 8) || decide (D = 12) || (decide (D = 16) && !(decide (a = 9218868437227405312 ∨ a = 18442240474082181120) || decide (b = 9218868437227405312 ∨ b = 18442240474082181120)))))))
theorem beqI (D k : Int) : (D == k) = decide (D = k) := by
  by_cases c : D = k
  · subst c; simp
  · rw [decide_eq_false c]; simpa using c
end B8
end Go.Proofs.Ytbcjhmdkpkmieab
namespace Go.Proofs.Ytbcjhmdkpkmieab
open Go.RowKit
set_option maxRecDepth 20000 in
set_option maxHeartbeats 2000000 in
theorem dreadA_ (a b L H : Nat) (D R : Int) (C : Bool) (hx : ∀ w : World, Calls Try.prog 31 #[.agg #[.float .f64 a, .float .f64 b]] w fun e w' => e = .returned (.agg #[.float .f64 L, .float .f64 H]) ∧ Kp w w') (hv : ∀ w : World, Calls Try.prog 53 #[.agg #[.float .f64 L, .float .f64 H]] w fun e w' => e = .returned (.bool false) ∧ Kp w w') (hc : ∀ w : World, Calls Try.prog 56 #[.agg #[.float .f64 L, .float .f64 H]] w fun e w' => e = .returned (.bool C) ∧ Kp w w') (hf : ∀ w : World, Calls Try.prog 55 #[.int .i64 D, .agg #[.bool true, .bool true, .bool C]] w fun e w' => e = .returned (.int .i64 R) ∧ Kp w w') (t0 : (R == 0) = false) (w : World) : Calls Try.prog 38 #[.agg #[.float .f64 a, .float .f64 b, .int .i64 D]] w fun e w' => e = .returned (.agg #[.float .f64 L, .float .f64 H, .int .i64 R]) ∧ Kp w w' := by
  go_enter Try.func38, Try.ntmps38
  go_upto_region 5 with (first | (go_at_call 31; refine (hx _).mono ?_; rintro e w1 ⟨rfl, g1⟩; have k1 : Kp w w1 := Kp.trans (((Kp.refl w).alloc _).alloc _) g1; have sx := H3c.keep (H3c.keep (H3c.new w (.float .f64 a) (.float .f64 b) (.int .i64 D) 41) ((Kp.refl _).alloc (.cells #[.float .f64 0, .float .f64 0, .int .i64 0] 41))) g1; have sr := H3c.keep (H3c.two w #[.float .f64 a, .float .f64 b, .int .i64 D] (.float .f64 0) (.float .f64 0) (.int .i64 0) 41 41) g1) | (go_at_call 53; refine (hv _).mono ?_; rintro e w2 ⟨rfl, g2⟩; have k2 := Kp.trans (k1.alloc _) g2; have qy := Fq.H2.keep (Fq.H2.new w1 (.float .f64 L) (.float .f64 H) 31) g2; replace sx := H3c.keep (H3c.keep sx ((Kp.refl w1).alloc _)) g2; replace sr := H3c.keep (H3c.keep sr ((Kp.refl w1).alloc _)) g2; obtain ⟨x0, x1, x2, x3, x4, x5⟩ := id sx; obtain ⟨r0, r1, r2, r3, r4, r5⟩ := id sr; obtain ⟨y0, y1, y2, y3⟩ := id qy))
  refine Fq.wp_region_grow (by kernel_rfl) (by kernel_rfl) (fun ι _ G hG hall => ?_)
  have cc0 : ∀ n, (G n).cell? ⟨w.heap.size, 0, none⟩ = some (.float .f64 a) := fun n => Fq.gkeep (hG n) x0
  have cc1 : ∀ n, (G n).cell? ⟨w.heap.size, 1, none⟩ = some (.float .f64 b) := fun n => Fq.gkeep (hG n) x1
  have cc2 : ∀ n, (G n).cell? ⟨w.heap.size, 2, none⟩ = some (.int .i64 D) := fun n => Fq.gkeep (hG n) x2
  have cc3 : ∀ n, (G n).cell? ⟨w1.heap.size, 0, none⟩ = some (.float .f64 L) := fun n => Fq.gkeep (hG n) y0
  have cc4 : ∀ n, (G n).cell? ⟨w1.heap.size, 1, none⟩ = some (.float .f64 H) := fun n => Fq.gkeep (hG n) y1
  repeat (go_big_quiet_step (first | (go_at_call 56; exact (hc _).mono (fun e w' h => ⟨h.1, hall _ (Fq.gtrans (hG _) h.2)⟩)) | (go_at_call 55; exact (hf _).mono (fun e w' h => ⟨h.1, hall _ (Fq.gtrans (hG _) h.2)⟩))))
  refine wpQuiet_nil ?_
  rintro _ ⟨nq, rfl⟩
  have gq : Kp w2 (G nq) := hG nq
  clear cc0 cc1 cc2 cc3 cc4 hall hG
  have k3 := Kp.trans k2 gq
  have sr3 := H3c.keep sr gq
  have qy3 := Fq.H2.keep qy gq
  clear x0 x1 x2 x3 x4 x5 r0 r1 r2 r3 r4 r5 y0 y1 y2 y3
  obtain ⟨r0, r1, r2, r3, r4, r5⟩ := id sr3
  obtain ⟨y0, y1, y2, y3⟩ := id qy3
  go_wp2
  exact bodyPost_ret (v := .agg #[.float .f64 L, .float .f64 H, .int .i64 R]) (by simp [results, Try.results38, go_sem, r0, r1, r2]) rfl ⟨rfl, (((k3.setCell (by simp) _).setCell (by simp) _).setCell (by simp) _)⟩
set_option maxRecDepth 20000 in
set_option maxHeartbeats 2000000 in
theorem dreadB_ (a b L H : Nat) (D R : Int) (C : Bool) (hx : ∀ w : World, Calls Try.prog 31 #[.agg #[.float .f64 a, .float .f64 b]] w fun e w' => e = .returned (.agg #[.float .f64 L, .float .f64 H]) ∧ Kp w w') (hv : ∀ w : World, Calls Try.prog 53 #[.agg #[.float .f64 L, .float .f64 H]] w fun e w' => e = .returned (.bool false) ∧ Kp w w') (hc : ∀ w : World, Calls Try.prog 56 #[.agg #[.float .f64 L, .float .f64 H]] w fun e w' => e = .returned (.bool C) ∧ Kp w w') (hf : ∀ w : World, Calls Try.prog 55 #[.int .i64 D, .agg #[.bool true, .bool true, .bool C]] w fun e w' => e = .returned (.int .i64 R) ∧ Kp w w') (t0 : (R == 0) = true) (w : World) : Calls Try.prog 38 #[.agg #[.float .f64 a, .float .f64 b, .int .i64 D]] w fun e w' => e = .returned (.agg #[.float .f64 9218868437227405312, .float .f64 18442240474082181120, .int .i64 0]) ∧ Kp w w' := by
  go_enter Try.func38, Try.ntmps38
  go_upto_region 5 with (first | (go_at_call 31; refine (hx _).mono ?_; rintro e w1 ⟨rfl, g1⟩; have k1 : Kp w w1 := Kp.trans (((Kp.refl w).alloc _).alloc _) g1; have sx := H3c.keep (H3c.keep (H3c.new w (.float .f64 a) (.float .f64 b) (.int .i64 D) 41) ((Kp.refl _).alloc (.cells #[.float .f64 0, .float .f64 0, .int .i64 0] 41))) g1; have sr := H3c.keep (H3c.two w #[.float .f64 a, .float .f64 b, .int .i64 D] (.float .f64 0) (.float .f64 0) (.int .i64 0) 41 41) g1) | (go_at_call 53; refine (hv _).mono ?_; rintro e w2 ⟨rfl, g2⟩; have k2 := Kp.trans (k1.alloc _) g2; have qy := Fq.H2.keep (Fq.H2.new w1 (.float .f64 L) (.float .f64 H) 31) g2; replace sx := H3c.keep (H3c.keep sx ((Kp.refl w1).alloc _)) g2; replace sr := H3c.keep (H3c.keep sr ((Kp.refl w1).alloc _)) g2; obtain ⟨x0, x1, x2, x3, x4, x5⟩ := id sx; obtain ⟨r0, r1, r2, r3, r4, r5⟩ := id sr; obtain ⟨y0, y1, y2, y3⟩ := id qy))
  refine Fq.wp_region_grow (by kernel_rfl) (by kernel_rfl) (fun ι _ G hG hall => ?_)
  have cc0 : ∀ n, (G n).cell? ⟨w.heap.size, 0, none⟩ = some (.float .f64 a) := fun n => Fq.gkeep (hG n) x0
  have cc1 : ∀ n, (G n).cell? ⟨w.heap.size, 1, none⟩ = some (.float .f64 b) := fun n => Fq.gkeep (hG n) x1
  have cc2 : ∀ n, (G n).cell? ⟨w.heap.size, 2, none⟩ = some (.int .i64 D) := fun n => Fq.gkeep (hG n) x2
  have cc3 : ∀ n, (G n).cell? ⟨w1.heap.size, 0, none⟩ = some (.float .f64 L) := fun n => Fq.gkeep (hG n) y0
  have cc4 : ∀ n, (G n).cell? ⟨w1.heap.size, 1, none⟩ = some (.float .f64 H) := fun n => Fq.gkeep (hG n) y1
  repeat (go_big_quiet_step (first | (go_at_call 56; exact (hc _).mono (fun e w' h => ⟨h.1, hall _ (Fq.gtrans (hG _) h.2)⟩)) | (go_at_call 55; exact (hf _).mono (fun e w' h => ⟨h.1, hall _ (Fq.gtrans (hG _) h.2)⟩))))
  refine wpQuiet_nil ?_
  rintro _ ⟨nq, rfl⟩
  have gq : Kp w2 (G nq) := hG nq
  clear cc0 cc1 cc2 cc3 cc4 hall hG
  have k3 := Kp.trans k2 gq
  have sr3 := H3c.keep sr gq
  have qy3 := Fq.H2.keep qy gq
  clear x0 x1 x2 x3 x4 x5 r0 r1 r2 r3 r4 r5 y0 y1 y2 y3
  obtain ⟨r0, r1, r2, r3, r4, r5⟩ := id sr3
  obtain ⟨y0, y1, y2, y3⟩ := id qy3
  go_wp2_with (first | (go_at_call 54; refine (nai_ _).mono ?_; rintro e w5 ⟨rfl, g5⟩; have k5 := Kp.trans k3 g5; obtain ⟨r0, r1, r2, r3, r4, r5⟩ := H3c.keep sr3 g5))
  exact bodyPost_ret (v := .agg #[.float .f64 9218868437227405312, .float .f64 18442240474082181120, .int .i64 0]) (by simp [results, Try.results38, go_sem, r0, r1, r2]) rfl ⟨rfl, (((k5.setCell (by simp) _).setCell (by simp) _).setCell (by simp) _)⟩
set_option maxRecDepth 20000 in
set_option maxHeartbeats 2000000 in
theorem dreadD_ (a b L H : Nat) (D R : Int) (C : Bool) (hx : ∀ w : World, Calls Try.prog 31 #[.agg #[.float .f64 a, .float .f64 b]] w fun e w' => e = .returned (.agg #[.float .f64 L, .float .f64 H]) ∧ Kp w w') (hv : ∀ w : World, Calls Try.prog 53 #[.agg #[.float .f64 L, .float .f64 H]] w fun e w' => e = .returned (.bool true) ∧ Kp w w') (hc : ∀ w : World, Calls Try.prog 56 #[.agg #[.float .f64 L, .float .f64 H]] w fun e w' => e = .returned (.bool C) ∧ Kp w w') (hf : ∀ w : World, Calls Try.prog 55 #[.int .i64 D, .agg #[.bool false, .bool true, .bool C]] w fun e w' => e = .returned (.int .i64 R) ∧ Kp w w') (u1 : (FloatKind.f64.format.order a L == some Ordering.eq) = true) (u2 : (FloatKind.f64.format.order b H == some Ordering.eq) = true) (t0 : (R == 0) = false) (w : World) : Calls Try.prog 38 #[.agg #[.float .f64 a, .float .f64 b, .int .i64 D]] w fun e w' => e = .returned (.agg #[.float .f64 L, .float .f64 H, .int .i64 R]) ∧ Kp w w' := by
  have q1 := Fq.eqInR a L
  have q2 := Fq.eqInR b H
  rw [u1] at q1
  rw [u2] at q2
  go_enter Try.func38, Try.ntmps38
  go_upto_region 5 with (first | (go_at_call 31; refine (hx _).mono ?_; rintro e w1 ⟨rfl, g1⟩; have k1 : Kp w w1 := Kp.trans (((Kp.refl w).alloc _).alloc _) g1; have sx := H3c.keep (H3c.keep (H3c.new w (.float .f64 a) (.float .f64 b) (.int .i64 D) 41) ((Kp.refl _).alloc (.cells #[.float .f64 0, .float .f64 0, .int .i64 0] 41))) g1; have sr := H3c.keep (H3c.two w #[.float .f64 a, .float .f64 b, .int .i64 D] (.float .f64 0) (.float .f64 0) (.int .i64 0) 41 41) g1) | (go_at_call 53; refine (hv _).mono ?_; rintro e w2 ⟨rfl, g2⟩; have k2 := Kp.trans (k1.alloc _) g2; have qy := Fq.H2.keep (Fq.H2.new w1 (.float .f64 L) (.float .f64 H) 31) g2; replace sx := H3c.keep (H3c.keep sx ((Kp.refl w1).alloc _)) g2; replace sr := H3c.keep (H3c.keep sr ((Kp.refl w1).alloc _)) g2; obtain ⟨x0, x1, x2, x3, x4, x5⟩ := id sx; obtain ⟨r0, r1, r2, r3, r4, r5⟩ := id sr; obtain ⟨y0, y1, y2, y3⟩ := id qy))
  refine Fq.wp_region_grow (by kernel_rfl) (by kernel_rfl) (fun ι _ G hG hall => ?_)
  have cc0 : ∀ n, (G n).cell? ⟨w.heap.size, 0, none⟩ = some (.float .f64 a) := fun n => Fq.gkeep (hG n) x0
  have cc1 : ∀ n, (G n).cell? ⟨w.heap.size, 1, none⟩ = some (.float .f64 b) := fun n => Fq.gkeep (hG n) x1
  have cc2 : ∀ n, (G n).cell? ⟨w.heap.size, 2, none⟩ = some (.int .i64 D) := fun n => Fq.gkeep (hG n) x2
  have cc3 : ∀ n, (G n).cell? ⟨w1.heap.size, 0, none⟩ = some (.float .f64 L) := fun n => Fq.gkeep (hG n) y0
  have cc4 : ∀ n, (G n).cell? ⟨w1.heap.size, 1, none⟩ = some (.float .f64 H) := fun n => Fq.gkeep (hG n) y1
  repeat (go_big_quiet_step (first | (go_at_call 56; exact (hc _).mono (fun e w' h => ⟨h.1, hall _ (Fq.gtrans (hG _) h.2)⟩)) | (go_at_call 55; exact (hf _).mono (fun e w' h => ⟨h.1, hall _ (Fq.gtrans (hG _) h.2)⟩))))
  refine wpQuiet_nil ?_
  rintro _ ⟨nq, rfl⟩
  have gq : Kp w2 (G nq) := hG nq
  clear cc0 cc1 cc2 cc3 cc4 hall hG
  have k3 := Kp.trans k2 gq
  have sr3 := H3c.keep sr gq
  have qy3 := Fq.H2.keep qy gq
  clear x0 x1 x2 x3 x4 x5 r0 r1 r2 r3 r4 r5 y0 y1 y2 y3
  obtain ⟨r0, r1, r2, r3, r4, r5⟩ := id sr3
  obtain ⟨y0, y1, y2, y3⟩ := id qy3
  go_wp2
  exact bodyPost_ret (v := .agg #[.float .f64 L, .float .f64 H, .int .i64 R]) (by simp [results, Try.results38, go_sem, r0, r1, r2]) rfl ⟨rfl, (((k3.setCell (by simp) _).setCell (by simp) _).setCell (by simp) _)⟩
set_option maxRecDepth 20000 in
set_option maxHeartbeats 2000000 in
theorem dreadE_ (a b L H : Nat) (D R : Int) (C : Bool) (hx : ∀ w : World, Calls Try.prog 31 #[.agg #[.float .f64 a, .float .f64 b]] w fun e w' => e = .returned (.agg #[.float .f64 L, .float .f64 H]) ∧ Kp w w') (hv : ∀ w : World, Calls Try.prog 53 #[.agg #[.float .f64 L, .float .f64 H]] w fun e w' => e = .returned (.bool true) ∧ Kp w w') (hc : ∀ w : World, Calls Try.prog 56 #[.agg #[.float .f64 L, .float .f64 H]] w fun e w' => e = .returned (.bool C) ∧ Kp w w') (hf : ∀ w : World, Calls Try.prog 55 #[.int .i64 D, .agg #[.bool false, .bool true, .bool C]] w fun e w' => e = .returned (.int .i64 R) ∧ Kp w w') (u1 : (FloatKind.f64.format.order a L == some Ordering.eq) = true) (u2 : (FloatKind.f64.format.order b H == some Ordering.eq) = true) (t0 : (R == 0) = true) (w : World) : Calls Try.prog 38 #[.agg #[.float .f64 a, .float .f64 b, .int .i64 D]] w fun e w' => e = .returned (.agg #[.float .f64 9218868437227405312, .float .f64 18442240474082181120, .int .i64 0]) ∧ Kp w w' := by
  have q1 := Fq.eqInR a L
  have q2 := Fq.eqInR b H
  rw [u1] at q1
  rw [u2] at q2
  go_enter Try.func38, Try.ntmps38
  go_upto_region 5 with (first | (go_at_call 31; refine (hx _).mono ?_; rintro e w1 ⟨rfl, g1⟩; have k1 : Kp w w1 := Kp.trans (((Kp.refl w).alloc _).alloc _) g1; have sx := H3c.keep (H3c.keep (H3c.new w (.float .f64 a) (.float .f64 b) (.int .i64 D) 41) ((Kp.refl _).alloc (.cells #[.float .f64 0, .float .f64 0, .int .i64 0] 41))) g1; have sr := H3c.keep (H3c.two w #[.float .f64 a, .float .f64 b, .int .i64 D] (.float .f64 0) (.float .f64 0) (.int .i64 0) 41 41) g1) | (go_at_call 53; refine (hv _).mono ?_; rintro e w2 ⟨rfl, g2⟩; have k2 := Kp.trans (k1.alloc _) g2; have qy := Fq.H2.keep (Fq.H2.new w1 (.float .f64 L) (.float .f64 H) 31) g2; replace sx := H3c.keep (H3c.keep sx ((Kp.refl w1).alloc _)) g2; replace sr := H3c.keep (H3c.keep sr ((Kp.refl w1).alloc _)) g2; obtain ⟨x0, x1, x2, x3, x4, x5⟩ := id sx; obtain ⟨r0, r1, r2, r3, r4, r5⟩ := id sr; obtain ⟨y0, y1, y2, y3⟩ := id qy))
  refine Fq.wp_region_grow (by kernel_rfl) (by kernel_rfl) (fun ι _ G hG hall => ?_)
  have cc0 : ∀ n, (G n).cell? ⟨w.heap.size, 0, none⟩ = some (.float .f64 a) := fun n => Fq.gkeep (hG n) x0
  have cc1 : ∀ n, (G n).cell? ⟨w.heap.size, 1, none⟩ = some (.float .f64 b) := fun n => Fq.gkeep (hG n) x1
  have cc2 : ∀ n, (G n).cell? ⟨w.heap.size, 2, none⟩ = some (.int .i64 D) := fun n => Fq.gkeep (hG n) x2
  have cc3 : ∀ n, (G n).cell? ⟨w1.heap.size, 0, none⟩ = some (.float .f64 L) := fun n => Fq.gkeep (hG n) y0
  have cc4 : ∀ n, (G n).cell? ⟨w1.heap.size, 1, none⟩ = some (.float .f64 H) := fun n => Fq.gkeep (hG n) y1
  repeat (go_big_quiet_step (first | (go_at_call 56; exact (hc _).mono (fun e w' h => ⟨h.1, hall _ (Fq.gtrans (hG _) h.2)⟩)) | (go_at_call 55; exact (hf _).mono (fun e w' h => ⟨h.1, hall _ (Fq.gtrans (hG _) h.2)⟩))))
  refine wpQuiet_nil ?_
  rintro _ ⟨nq, rfl⟩
  have gq : Kp w2 (G nq) := hG nq
  clear cc0 cc1 cc2 cc3 cc4 hall hG
  have k3 := Kp.trans k2 gq
  have sr3 := H3c.keep sr gq
  have qy3 := Fq.H2.keep qy gq
  clear x0 x1 x2 x3 x4 x5 r0 r1 r2 r3 r4 r5 y0 y1 y2 y3
  obtain ⟨r0, r1, r2, r3, r4, r5⟩ := id sr3
  obtain ⟨y0, y1, y2, y3⟩ := id qy3
  go_wp2_with (first | (go_at_call 54; refine (nai_ _).mono ?_; rintro e w5 ⟨rfl, g5⟩; have k5 := Kp.trans k3 g5; obtain ⟨r0, r1, r2, r3, r4, r5⟩ := H3c.keep sr3 g5))
  exact bodyPost_ret (v := .agg #[.float .f64 9218868437227405312, .float .f64 18442240474082181120, .int .i64 0]) (by simp [results, Try.results38, go_sem, r0, r1, r2]) rfl ⟨rfl, (((k5.setCell (by simp) _).setCell (by simp) _).setCell (by simp) _)⟩
end Go.Proofs.Ytbcjhmdkpkmieab
namespace Go.Proofs.Ytbcjhmdkpkmieab
open Go.RowKit
/-- what is read of a decorated interval: the ends' patterns and the decoration -/
def dL (a b : Nat) (L : Int) (R : Int) : Nat := if R = 0 ∨ (L = 9218868437227405312 ∧ ¬ (a = 9218868437227405312 ∧ b = 18442240474082181120)) then 9218868437227405312 else pw L
def dH (a b : Nat) (L H : Int) (R : Int) : Nat := if R = 0 ∨ (L = 9218868437227405312 ∧ ¬ (a = 9218868437227405312 ∧ b = 18442240474082181120)) then 18442240474082181120 else pw H
def dR (a b : Nat) (L : Int) (R : Int) : Int := if R = 0 ∨ (L = 9218868437227405312 ∧ ¬ (a = 9218868437227405312 ∧ b = 18442240474082181120)) then 0 else R
def dN (L H D : Int) : Int := fallN D (!decide (L = 9218868437227405312)) true (!decide (L = 9218868437227405312 ∨ L = -9218868437227405312) && !decide (H = 9218868437227405312 ∨ H = -9218868437227405312))
theorem dread_ (a b : Nat) (L H D : Int) (hx : Rd a b L H) (w : World) : Calls Try.prog 38 #[.agg #[.float .f64 a, .float .f64 b, .int .i64 D]] w fun e w' => e = .returned (.agg #[.float .f64 (dL a b L (dN L H D)), .float .f64 (dH a b L H (dN L H D)), .int .i64 (dR a b L (dN L H D))]) ∧ Kp w w' := by
  have hd := hx.vd
  have r2 := Rd.of hd
  have hv := isemp9_ (pw L) (pw H) L H r2
  have hc := common9_ (pw L) (pw H) L H r2
  have hf := fall_ D (!decide (L = 9218868437227405312)) true (!decide (L = 9218868437227405312 ∨ L = -9218868437227405312) && !decide (H = 9218868437227405312 ∨ H = -9218868437227405312))
  unfold dL dH dR
  by_cases c : L = 9218868437227405312
  · have u1 : (FloatKind.f64.format.order a (pw L) == some Ordering.eq) = decide (a = 9218868437227405312) := by rw [c, pw_I]; exact Fq.feqI a hx.1
    have u2 : (FloatKind.f64.format.order b (pw H) == some Ordering.eq) = decide (b = 18442240474082181120) := by
      have e : H = -9218868437227405312 := by unfold VdZ at hd; omega
      rw [e, pw_MI]; exact Fq.feqM b hx.2.1
    by_cases e : a = 9218868437227405312 ∧ b = 18442240474082181120
    · rw [decide_eq_true e.1] at u1
      rw [decide_eq_true e.2] at u2
      rw [decide_eq_true c] at hv
      by_cases z : dN L H D = 0
      · rw [if_pos (Or.inl z), if_pos (Or.inl z), if_pos (Or.inl z)]
        unfold dN at z
        rw [z, decide_eq_true c] at hf
        rw [decide_eq_true c] at z
        exact dreadE_ a b _ _ D 0 _ hx.call hv hc hf u1 u2 rfl w
      · rw [if_neg (fun h => h.elim z (fun h => h.2 e)), if_neg (fun h => h.elim z (fun h => h.2 e)), if_neg (fun h => h.elim z (fun h => h.2 e))]
        unfold dN at z ⊢
        rw [decide_eq_true c] at hf z ⊢
        exact dreadD_ a b _ _ D _ _ hx.call hv hc hf u1 u2 (by simpa using z) w
    · rw [if_pos (Or.inr ⟨c, e⟩), if_pos (Or.inr ⟨c, e⟩), if_pos (Or.inr ⟨c, e⟩)]
      rw [decide_eq_true c] at hv
      exact dreadC_ a b _ _ D hx.call hv _ _ u1 u2 (by by_cases c1 : a = 9218868437227405312 <;> by_cases c2 : b = 18442240474082181120 <;> simp [c1, c2]; exact e ⟨c1, c2⟩) w
  · rw [decide_eq_false c] at hv
    by_cases z : dN L H D = 0
    · rw [if_pos (Or.inl z), if_pos (Or.inl z), if_pos (Or.inl z)]
      unfold dN at z
      rw [z, decide_eq_false c] at hf
      exact dreadB_ a b _ _ D 0 _ hx.call hv hc hf rfl w
    · rw [if_neg (fun h => h.elim z (fun h => c h.1)), if_neg (fun h => h.elim z (fun h => c h.1)), if_neg (fun h => h.elim z (fun h => c h.1))]
      unfold dN at z ⊢
      rw [decide_eq_false c] at hf z ⊢
      exact dreadA_ a b _ _ D _ _ hx.call hv hc hf (by simpa using z) w
end Go.Proofs.Ytbcjhmdkpkmieab
namespace Go.Proofs.Ytbcjhmdkpkmieab
open Go.RowKit
open Go
namespace B8
set_option linter.unusedVariables false
theorem eqIn8 (a c : Nat) (w : World) : (Op.equalIn 9998 29 (.float .f64 a) (.float .f64 c)).run Try.prog w = .ok (FloatKind.f64.format.order a c == some Ordering.eq) w := by kernel_rfl
set_option maxRecDepth 20000 in
set_option maxHeartbeats 1000000 in
theorem gdecN_ (p : Option Addr) (N c : Nat) (t : ((N : Int) != 17) = true) (w : World) : Calls Try.prog 14 #[.slice p N c] w fun e w' => e = .returned (.tuple #[.agg #[.float .f64 0, .float .f64 0, .int .i64 0], .int .i64 130]) ∧ Kp w w' := by
  go_enter Try.func14, Try.ntmps14
  go_wp2
  exact bodyPost_ret (v := .tuple #[.agg #[.float .f64 0, .float .f64 0, .int .i64 0], .int .i64 130]) (by simp [results, Try.results14, go_sem]) rfl ⟨rfl, (by repeat (with_reducible (first | assumption | exact Kp.refl _ | apply Kp.drew | apply Kp.alloc | apply Kp.drewN | (refine Kp.setCell ?_ (by first | omega | (simp <;> omega)) _) | (refine Kp.trans ?_ (by assumption)))))⟩
set_option maxRecDepth 20000 in
set_option maxHeartbeats 2000000 in
theorem gdecA_ (b off c X Y : Nat) (D : Int) (hD0 : 0 ≤ D) (hD1 : D < 256) (HC1 : ∀ w : World, Calls Try.prog 29 #[.slice (some ⟨b, off, none⟩) 17 c, .int .i64 0, .int .i64 16] w fun e w' => e = .returned (.slice (some ⟨b, off, none⟩) 16 16) ∧ w' = w) (w : World) (hcell : w.cell? ⟨b, off + 16, none⟩ = some (.int .u8 D)) (hg : ∀ W : World, Kp w W → Calls Try.prog 9 #[.slice (some ⟨b, off, none⟩) 16 16] W fun e w' => e = .returned (.tuple #[.agg #[.float .f64 X, .float .f64 Y], .int .i64 130]) ∧ Kp W w') (L H : Nat) (R : Int) (hr : ∀ w : World, Calls Try.prog 38 #[.agg #[.float .f64 X, .float .f64 Y, .int .i64 D]] w fun e w' => e = .returned (.agg #[.float .f64 L, .float .f64 H, .int .i64 R]) ∧ Kp w w') : Calls Try.prog 14 #[.slice (some ⟨b, off, none⟩) 17 c] w fun e w' => e = .returned (.tuple #[.agg #[.float .f64 0, .float .f64 0, .int .i64 0], .int .i64 130]) ∧ Kp w w' := by
  have hwD : IntKind.i64.wrap D = D := by rw [IntKind.wrap_i64]; omega
  go_enter Try.func14, Try.ntmps14
  go_upto_region 4 with (first | (go_at_call 29; refine (HC1 _).mono ?_; rintro e w' ⟨rfl, rfl⟩) | (go_at_call 9; refine (hg _ ?qk).mono ?_; (case qk => ((repeat (first | with_reducible exact Kp.refl _ | with_reducible refine Kp.drew ?_ | with_reducible refine Kp.alloc ?_ _)); done)); rintro e w1 ⟨rfl, g1⟩; have k1 : Kp w w1 := Kp.trans ((Kp.refl w).alloc _) g1; have sr := H3c.keep (H3c.new w (.float .f64 0) (.float .f64 0) (.int .i64 0) 41) g1))
  have s4 := Fq.H2.new w1 (.float .f64 X) (.float .f64 Y) 31
  replace sr := H3c.keep sr ((Kp.refl w1).alloc (.cells #[.float .f64 X, .float .f64 Y] 31))
  replace k1 := k1.alloc (.cells #[.float .f64 X, .float .f64 Y] 31)
  generalize w1.alloc (.cells #[.float .f64 X, .float .f64 Y] 31) = W at s4 sr k1 ⊢
  generalize w1.heap.size = B4 at s4 ⊢
  obtain ⟨y0, y1, y2, y3⟩ := id s4
  replace hcell := kkeep k1 hcell
  have hltb := cell_lt hcell
  have hlt4 := cell_lt y0
  clear g1 hg HC1
  go_cut [6] (fun s6 wx => ∃ g : Nat, s6 = .pointer (some ⟨g, 0, none⟩) ∧ H3c wx g (.float .f64 X) (.float .f64 Y) (.int .i64 D) ∧ Kp W wx)
  case first =>
    go_region_held3 (fun w' => w'.cell? ⟨b, off + 16, none⟩ = some (.int .u8 D) ∧ w'.cell? ⟨B4, 0, none⟩ = some (.float .f64 X) ∧ w'.cell? ⟨B4, 1, none⟩ = some (.float .f64 Y)) (first | (refine ⟨kkeep (W := W) ?_ hcell, kkeep (W := W) ?_ y0, kkeep (W := W) ?_ y1⟩ <;> ((repeat (first | with_reducible exact Kp.refl _ | with_reducible refine Kp.drew ?_ | with_reducible refine Kp.alloc ?_ _)); done)) | (refine ⟨?_, ?_, ?_⟩ <;> (refine ((World.cell?_setCell_far _ _ _ _ ?_).trans ((World.cell?_setCell_far _ _ _ _ ?_).trans ((World.cell?_setCell_far _ _ _ _ ?_).trans ?_))) <;> first | (simp; omega) | (refine kkeep (W := W) ?_ (by assumption); ((repeat (first | with_reducible exact Kp.refl _ | with_reducible refine Kp.drew ?_ | with_reducible refine Kp.alloc ?_ _)); done))))) (fail)
    all_goals go_wp2_with fail
    all_goals (
      go_meet
      refine ⟨_, rfl, ?_, ?_⟩
      · first | (with_reducible exact H3c.new W _ _ _ 41) | (unfold H3c; simp [go_sem]; done)
      · first | (with_reducible exact (Kp.refl W).alloc _) | (exact ((Kp.refl W).alloc _).drew) | (exact ((Kp.refl W).drew).alloc _) | (refine ((((Kp.drew (Kp.refl W)).alloc _).setCell ?_ _).setCell ?_ _).setCell ?_ _ <;> simp))
  case rest =>
  obtain ⟨g6, rfl, q6, gc⟩ := hcut
  replace sr := H3c.keep sr gc
  replace k1 := Kp.trans k1 gc
  obtain ⟨x0, x1, x2, x3, x4, x5⟩ := id q6
  clear s4 y0 y1 y2 y3 hcell hltb hlt4
  go_upto_region 5 with fail
  refine Fq.wp_region_grow (by kernel_rfl) (by kernel_rfl) (fun ι _ G hG hall => ?_)
  have cc0 : ∀ n, (G n).cell? ⟨g6, 0, none⟩ = some (.float .f64 X) := fun n => Fq.gkeep (hG n) x0
  have cc1 : ∀ n, (G n).cell? ⟨g6, 1, none⟩ = some (.float .f64 Y) := fun n => Fq.gkeep (hG n) x1
  have cc2 : ∀ n, (G n).cell? ⟨g6, 2, none⟩ = some (.int .i64 D) := fun n => Fq.gkeep (hG n) x2
  repeat (go_big_quiet_step (first | (go_at_call 38; exact (hr _).mono (fun e w' h => ⟨h.1, hall _ (Fq.gtrans (hG _) h.2)⟩))))
  refine wpQuiet_nil ?_
  rintro _ ⟨nq, rfl⟩
  have gq : Kp wc (G nq) := hG nq
  clear cc0 cc1 cc2 hall hG
  replace sr := H3c.keep sr gq
  replace q6 := H3c.keep q6 gq
  replace k1 := Kp.trans k1 gq
  clear x0 x1 x2 x3 x4 x5
  obtain ⟨x0, x1, x2, x3, x4, x5⟩ := id q6
  obtain ⟨r0, r1, r2, r3, r4, r5⟩ := id sr
  go_wp2
  exact bodyPost_ret (v := .tuple #[.agg #[.float .f64 0, .float .f64 0, .int .i64 0], .int .i64 130]) (by simp [results, Try.results14, go_sem, r0, r1, r2]) rfl ⟨rfl, (((k1.setCell (by simp) _).setCell (by simp) _).setCell (by simp) _)⟩
set_option maxRecDepth 20000 in
set_option maxHeartbeats 2000000 in
theorem gdecB_ (b off c X Y : Nat) (D : Int) (hD0 : 0 ≤ D) (hD1 : D < 256) (HC1 : ∀ w : World, Calls Try.prog 29 #[.slice (some ⟨b, off, none⟩) 17 c, .int .i64 0, .int .i64 16] w fun e w' => e = .returned (.slice (some ⟨b, off, none⟩) 16 16) ∧ w' = w) (w : World) (hcell : w.cell? ⟨b, off + 16, none⟩ = some (.int .u8 D)) (hg : ∀ W : World, Kp w W → Calls Try.prog 9 #[.slice (some ⟨b, off, none⟩) 16 16] W fun e w' => e = .returned (.tuple #[.agg #[.float .f64 X, .float .f64 Y], .int .i64 0]) ∧ Kp W w') (L H : Nat) (R : Int) (hr : ∀ w : World, Calls Try.prog 38 #[.agg #[.float .f64 X, .float .f64 Y, .int .i64 D]] w fun e w' => e = .returned (.agg #[.float .f64 L, .float .f64 H, .int .i64 R]) ∧ Kp w w') (E1 E2 E3 : Bool) (u1 : (FloatKind.f64.format.order X L == some Ordering.eq) = E1) (u2 : (FloatKind.f64.format.order Y H == some Ordering.eq) = E2) (t3 : (D == R) = E3) (u : ((E1 && E2) && E3) = false) : Calls Try.prog 14 #[.slice (some ⟨b, off, none⟩) 17 c] w fun e w' => e = .returned (.tuple #[.agg #[.float .f64 0, .float .f64 0, .int .i64 0], .int .i64 130]) ∧ Kp w w' := by
  have q1 := eqIn8 X L
  have q2 := eqIn8 Y H
  rw [u1] at q1
  rw [u2] at q2
  clear u1 u2
  cases E1 <;> cases E2 <;> cases E3
  case true.true.true => cases u
  all_goals first | (exact absurd u (by decide)) | (
    clear u
    have hwD : IntKind.i64.wrap D = D := by rw [IntKind.wrap_i64]; omega
    go_enter Try.func14, Try.ntmps14
    go_upto_region 4 with (first | (go_at_call 29; refine (HC1 _).mono ?_; rintro e w' ⟨rfl, rfl⟩) | (go_at_call 9; refine (hg _ ?qk).mono ?_; (case qk => ((repeat (first | with_reducible exact Kp.refl _ | with_reducible refine Kp.drew ?_ | with_reducible refine Kp.alloc ?_ _)); done)); rintro e w1 ⟨rfl, g1⟩; have k1 : Kp w w1 := Kp.trans ((Kp.refl w).alloc _) g1; have sr := H3c.keep (H3c.new w (.float .f64 0) (.float .f64 0) (.int .i64 0) 41) g1))
    have s4 := Fq.H2.new w1 (.float .f64 X) (.float .f64 Y) 31
    replace sr := H3c.keep sr ((Kp.refl w1).alloc (.cells #[.float .f64 X, .float .f64 Y] 31))
    replace k1 := k1.alloc (.cells #[.float .f64 X, .float .f64 Y] 31)
    generalize w1.alloc (.cells #[.float .f64 X, .float .f64 Y] 31) = W at s4 sr k1 ⊢
    generalize w1.heap.size = B4 at s4 ⊢
    obtain ⟨y0, y1, y2, y3⟩ := id s4
    replace hcell := kkeep k1 hcell
    have hltb := cell_lt hcell
    have hlt4 := cell_lt y0
    clear g1 hg HC1
    go_cut [6] (fun s6 wx => ∃ g : Nat, s6 = .pointer (some ⟨g, 0, none⟩) ∧ H3c wx g (.float .f64 X) (.float .f64 Y) (.int .i64 D) ∧ Kp W wx)
    case first =>
      go_region_held3 (fun w' => w'.cell? ⟨b, off + 16, none⟩ = some (.int .u8 D) ∧ w'.cell? ⟨B4, 0, none⟩ = some (.float .f64 X) ∧ w'.cell? ⟨B4, 1, none⟩ = some (.float .f64 Y)) (first | (refine ⟨kkeep (W := W) ?_ hcell, kkeep (W := W) ?_ y0, kkeep (W := W) ?_ y1⟩ <;> ((repeat (first | with_reducible exact Kp.refl _ | with_reducible refine Kp.drew ?_ | with_reducible refine Kp.alloc ?_ _)); done)) | (refine ⟨?_, ?_, ?_⟩ <;> (refine ((World.cell?_setCell_far _ _ _ _ ?_).trans ((World.cell?_setCell_far _ _ _ _ ?_).trans ((World.cell?_setCell_far _ _ _ _ ?_).trans ?_))) <;> first | (simp; omega) | (refine kkeep (W := W) ?_ (by assumption); ((repeat (first | with_reducible exact Kp.refl _ | with_reducible refine Kp.drew ?_ | with_reducible refine Kp.alloc ?_ _)); done))))) (fail)
      all_goals go_wp2_with fail
      all_goals (
        go_meet
        refine ⟨_, rfl, ?_, ?_⟩
        · first | (with_reducible exact H3c.new W _ _ _ 41) | (unfold H3c; simp [go_sem]; done)
        · first | (with_reducible exact (Kp.refl W).alloc _) | (exact ((Kp.refl W).alloc _).drew) | (exact ((Kp.refl W).drew).alloc _) | (refine ((((Kp.drew (Kp.refl W)).alloc _).setCell ?_ _).setCell ?_ _).setCell ?_ _ <;> simp))
    case rest =>
    obtain ⟨g6, rfl, q6, gc⟩ := hcut
    replace sr := H3c.keep sr gc
    replace k1 := Kp.trans k1 gc
    obtain ⟨x0, x1, x2, x3, x4, x5⟩ := id q6
    clear s4 y0 y1 y2 y3 hcell hltb hlt4
    go_upto_region 5 with fail
    refine Fq.wp_region_grow (by kernel_rfl) (by kernel_rfl) (fun ι _ G hG hall => ?_)
    have cc0 : ∀ n, (G n).cell? ⟨g6, 0, none⟩ = some (.float .f64 X) := fun n => Fq.gkeep (hG n) x0
    have cc1 : ∀ n, (G n).cell? ⟨g6, 1, none⟩ = some (.float .f64 Y) := fun n => Fq.gkeep (hG n) x1
    have cc2 : ∀ n, (G n).cell? ⟨g6, 2, none⟩ = some (.int .i64 D) := fun n => Fq.gkeep (hG n) x2
    repeat (go_big_quiet_step (first | (go_at_call 38; exact (hr _).mono (fun e w' h => ⟨h.1, hall _ (Fq.gtrans (hG _) h.2)⟩))))
    refine wpQuiet_nil ?_
    rintro _ ⟨nq, rfl⟩
    have gq : Kp wc (G nq) := hG nq
    clear cc0 cc1 cc2 hall hG
    replace sr := H3c.keep sr gq
    replace q6 := H3c.keep q6 gq
    replace k1 := Kp.trans k1 gq
    clear x0 x1 x2 x3 x4 x5
    obtain ⟨x0, x1, x2, x3, x4, x5⟩ := id q6
    obtain ⟨r0, r1, r2, r3, r4, r5⟩ := id sr
    go_wp2
    exact bodyPost_ret (v := .tuple #[.agg #[.float .f64 0, .float .f64 0, .int .i64 0], .int .i64 130]) (by simp [results, Try.results14, go_sem, r0, r1, r2]) rfl ⟨rfl, (((k1.setCell (by simp) _).setCell (by simp) _).setCell (by simp) _)⟩)
set_option maxRecDepth 20000 in
set_option maxHeartbeats 2000000 in
theorem gdecC_ (b off c X Y : Nat) (D : Int) (hD0 : 0 ≤ D) (hD1 : D < 256) (HC1 : ∀ w : World, Calls Try.prog 29 #[.slice (some ⟨b, off, none⟩) 17 c, .int .i64 0, .int .i64 16] w fun e w' => e = .returned (.slice (some ⟨b, off, none⟩) 16 16) ∧ w' = w) (w : World) (hcell : w.cell? ⟨b, off + 16, none⟩ = some (.int .u8 D)) (hg : ∀ W : World, Kp w W → Calls Try.prog 9 #[.slice (some ⟨b, off, none⟩) 16 16] W fun e w' => e = .returned (.tuple #[.agg #[.float .f64 X, .float .f64 Y], .int .i64 0]) ∧ Kp W w') (L H : Nat) (R : Int) (hr : ∀ w : World, Calls Try.prog 38 #[.agg #[.float .f64 X, .float .f64 Y, .int .i64 D]] w fun e w' => e = .returned (.agg #[.float .f64 L, .float .f64 H, .int .i64 R]) ∧ Kp w w') (E1 E2 E3 : Bool) (u1 : (FloatKind.f64.format.order X L == some Ordering.eq) = E1) (u2 : (FloatKind.f64.format.order Y H == some Ordering.eq) = E2) (t3 : (D == R) = E3) (u : ((E1 && E2) && E3) = true) : Calls Try.prog 14 #[.slice (some ⟨b, off, none⟩) 17 c] w fun e w' => e = .returned (.tuple #[.agg #[.float .f64 X, .float .f64 Y, .int .i64 D], .int .i64 0]) ∧ Kp w w' := by
  have q1 := eqIn8 X L
  have q2 := eqIn8 Y H
  rw [u1] at q1
  rw [u2] at q2
  clear u1 u2
  cases E1 <;> cases E2 <;> cases E3
  all_goals first | (exact absurd u (by decide)) | (
    clear u
    have hwD : IntKind.i64.wrap D = D := by rw [IntKind.wrap_i64]; omega
    go_enter Try.func14, Try.ntmps14
    go_upto_region 4 with (first | (go_at_call 29; refine (HC1 _).mono ?_; rintro e w' ⟨rfl, rfl⟩) | (go_at_call 9; refine (hg _ ?qk).mono ?_; (case qk => ((repeat (first | with_reducible exact Kp.refl _ | with_reducible refine Kp.drew ?_ | with_reducible refine Kp.alloc ?_ _)); done)); rintro e w1 ⟨rfl, g1⟩; have k1 : Kp w w1 := Kp.trans ((Kp.refl w).alloc _) g1; have sr := H3c.keep (H3c.new w (.float .f64 0) (.float .f64 0) (.int .i64 0) 41) g1))
    have s4 := Fq.H2.new w1 (.float .f64 X) (.float .f64 Y) 31
    replace sr := H3c.keep sr ((Kp.refl w1).alloc (.cells #[.float .f64 X, .float .f64 Y] 31))
    replace k1 := k1.alloc (.cells #[.float .f64 X, .float .f64 Y] 31)
    generalize w1.alloc (.cells #[.float .f64 X, .float .f64 Y] 31) = W at s4 sr k1 ⊢
    generalize w1.heap.size = B4 at s4 ⊢
    obtain ⟨y0, y1, y2, y3⟩ := id s4
    replace hcell := kkeep k1 hcell
    have hltb := cell_lt hcell
    have hlt4 := cell_lt y0
    clear g1 hg HC1
    go_cut [6] (fun s6 wx => ∃ g : Nat, s6 = .pointer (some ⟨g, 0, none⟩) ∧ H3c wx g (.float .f64 X) (.float .f64 Y) (.int .i64 D) ∧ Kp W wx)
    case first =>
      go_region_held3 (fun w' => w'.cell? ⟨b, off + 16, none⟩ = some (.int .u8 D) ∧ w'.cell? ⟨B4, 0, none⟩ = some (.float .f64 X) ∧ w'.cell? ⟨B4, 1, none⟩ = some (.float .f64 Y)) (first | (refine ⟨kkeep (W := W) ?_ hcell, kkeep (W := W) ?_ y0, kkeep (W := W) ?_ y1⟩ <;> ((repeat (first | with_reducible exact Kp.refl _ | with_reducible refine Kp.drew ?_ | with_reducible refine Kp.alloc ?_ _)); done)) | (refine ⟨?_, ?_, ?_⟩ <;> (refine ((World.cell?_setCell_far _ _ _ _ ?_).trans ((World.cell?_setCell_far _ _ _ _ ?_).trans ((World.cell?_setCell_far _ _ _ _ ?_).trans ?_))) <;> first | (simp; omega) | (refine kkeep (W := W) ?_ (by assumption); ((repeat (first | with_reducible exact Kp.refl _ | with_reducible refine Kp.drew ?_ | with_reducible refine Kp.alloc ?_ _)); done))))) (fail)
      all_goals go_wp2_with fail
      all_goals (
        go_meet
        refine ⟨_, rfl, ?_, ?_⟩
        · first | (with_reducible exact H3c.new W _ _ _ 41) | (unfold H3c; simp [go_sem]; done)
        · first | (with_reducible exact (Kp.refl W).alloc _) | (exact ((Kp.refl W).alloc _).drew) | (exact ((Kp.refl W).drew).alloc _) | (refine ((((Kp.drew (Kp.refl W)).alloc _).setCell ?_ _).setCell ?_ _).setCell ?_ _ <;> simp))
    case rest =>
    obtain ⟨g6, rfl, q6, gc⟩ := hcut
    replace sr := H3c.keep sr gc
    replace k1 := Kp.trans k1 gc
    obtain ⟨x0, x1, x2, x3, x4, x5⟩ := id q6
    clear s4 y0 y1 y2 y3 hcell hltb hlt4
    go_upto_region 5 with fail
    refine Fq.wp_region_grow (by kernel_rfl) (by kernel_rfl) (fun ι _ G hG hall => ?_)
    have cc0 : ∀ n, (G n).cell? ⟨g6, 0, none⟩ = some (.float .f64 X) := fun n => Fq.gkeep (hG n) x0
    have cc1 : ∀ n, (G n).cell? ⟨g6, 1, none⟩ = some (.float .f64 Y) := fun n => Fq.gkeep (hG n) x1
    have cc2 : ∀ n, (G n).cell? ⟨g6, 2, none⟩ = some (.int .i64 D) := fun n => Fq.gkeep (hG n) x2
    repeat (go_big_quiet_step (first | (go_at_call 38; exact (hr _).mono (fun e w' h => ⟨h.1, hall _ (Fq.gtrans (hG _) h.2)⟩))))
    refine wpQuiet_nil ?_
    rintro _ ⟨nq, rfl⟩
    have gq : Kp wc (G nq) := hG nq
    clear cc0 cc1 cc2 hall hG
    replace sr := H3c.keep sr gq
    replace q6 := H3c.keep q6 gq
    replace k1 := Kp.trans k1 gq
    clear x0 x1 x2 x3 x4 x5
    obtain ⟨x0, x1, x2, x3, x4, x5⟩ := id q6
    obtain ⟨r0, r1, r2, r3, r4, r5⟩ := id sr
    go_wp2
    exact bodyPost_ret (v := .tuple #[.agg #[.float .f64 X, .float .f64 Y, .int .i64 D], .int .i64 0]) (by simp [results, Try.results14, go_sem, r0, r1, r2]) rfl ⟨rfl, (((k1.setCell (by simp) _).setCell (by simp) _).setCell (by simp) _)⟩)
end B8
end Go.Proofs.Ytbcjhmdkpkmieab
namespace Go.Proofs.Ytbcjhmdkpkmieab
open Go.RowKit
open Go
namespace B8
/-- are bytes a decorated interval's form? -/
def gdOk (xs : List Int) : Bool := decide (xs.length = 17) && vdD (bv (xs.take 8)) (bv ((xs.drop 8).take 8)) (xs.getD 16 0)
def gdX (xs : List Int) : Nat := if gdOk xs then bv (xs.take 8) else 0
def gdY (xs : List Int) : Nat := if gdOk xs then bv ((xs.drop 8).take 8) else 0
def gdD (xs : List Int) : Int := if gdOk xs then xs.getD 16 0 else 0
def gdE (xs : List Int) : Int := if gdOk xs then 0 else 130
theorem vld_rd (a b : Nat) (ha : a < 18446744073709551616) (hb : b < 18446744073709551616) (h : Fq.vld a b = true) : ∃ L H, Rd a b L H ∧ a = pw L ∧ b = pw H := by
  obtain ⟨L, H, r⟩ := Rd.ex a b ha hb
  refine ⟨L, H, r, ?_⟩
  have e1 := r.2.2.2.1
  have e2 := r.2.2.2.2
  have hs := rd_snd a b L H r
  unfold Fq.vld at h
  by_cases c : Fq.snd a b = true
  · have n1 : a ≠ 9223372036854775808 := by
      intro hh; rw [hh] at h; revert h
      simp
    have n2 : b ≠ 9223372036854775808 := by
      intro hh; rw [hh] at h; revert h
      simp
    rw [← e1, ← e2]
    simp [Fq.rlo, Fq.rhi, c, Fq.pla, n1, n2]
  · have c : Fq.snd a b = false := by simpa using c
    rw [c] at h
    have h := of_decide_eq_true (by simpa using h : decide (a = 9218868437227405312 ∧ b = 18442240474082181120) = true)
    have f1 : Fq.rlo a b = 9218868437227405312 := by simp [Fq.rlo, c]
    have f2 : Fq.rhi a b = 18442240474082181120 := by simp [Fq.rhi, c]
    rw [← e1, ← e2, f1, f2]
    exact h
theorem vdD_vld (a b : Nat) (D : Int) (h : Fq.vld a b = false) : vdD a b D = false := by
  unfold vdD
  rw [h, Bool.false_and, Bool.or_false]
  refine decide_eq_false (fun hh => ?_)
  unfold Fq.vld at h
  rw [decide_eq_true ⟨hh.1, hh.2.1⟩] at h
  cases h
theorem vdD_read (L H : Int) (D : Int) (hd : VdZ L H) : vdD (pw L) (pw H) D = ((decide (pw L = dL (pw L) (pw H) L (dN L H D)) && decide (pw H = dH (pw L) (pw H) L H (dN L H D))) && decide (D = dR (pw L) (pw H) L (dN L H D))) := by
  have r := Rd.of hd
  have i1 := pw_inj L 9218868437227405312 hd.lo (by unfold BdZ; omega)
  have i2 := pw_inj L (-9218868437227405312) hd.lo (by unfold BdZ; omega)
  have i3 := pw_inj H 9218868437227405312 hd.hi (by unfold BdZ; omega)
  have i4 := pw_inj H (-9218868437227405312) hd.hi (by unfold BdZ; omega)
  rw [pw_I] at i1 i3
  rw [pw_MI] at i2 i4
  by_cases c : L = 9218868437227405312
  · have eH : H = -9218868437227405312 := by unfold VdZ at hd; omega
    have eL2 : pw L = 9218868437227405312 := i1.2 c
    have eH2 : pw H = 18442240474082181120 := i4.2 eH
    have hvl : Fq.vld (pw L) (pw H) = true := by unfold Fq.vld; rw [decide_eq_true ⟨eL2, eH2⟩]; rfl
    unfold vdD
    rw [hvl]
    unfold dL dH dR
    rw [eL2, eH2]
    have hN : dN L H D = if D = 4 ∨ D = 8 ∨ D = 12 ∨ D = 16 then 4 else 0 := by
      unfold dN fallN
      rw [decide_eq_true c]
      by_cases c4 : D = 4
      · subst c4; rfl
      by_cases c8 : D = 8
      · subst c8; rfl
      by_cases c12 : D = 12
      · subst c12; rfl
      by_cases c16 : D = 16
      · subst c16; rfl
      rw [if_neg c16, if_neg c12, if_neg c8, if_neg c4, if_neg (by omega)]
    rw [hN]
    by_cases c0 : D = 0
    · subst c0; simp
    by_cases c4 : D = 4
    · subst c4; simp [c]
    · by_cases cs : D = 8 ∨ D = 12 ∨ D = 16
      · rcases cs with rfl | rfl | rfl <;> simp [c]
      · rw [if_neg (show ¬ (D = 4 ∨ D = 8 ∨ D = 12 ∨ D = 16) from by omega)]; simp [c0, c4]
  · have hvl : Fq.vld (pw L) (pw H) = true := by
      have := vld_pla (pw L) (pw H) L H r
      have ep := rd_pla (pw L) (pw H) L H r c
      rw [ep.1, ep.2, decide_eq_false c] at this
      rw [this]; rfl
    unfold vdD
    rw [hvl, decide_eq_false (fun h => c (i1.1 h.1) : ¬ (pw L = 9218868437227405312 ∧ pw H = 18442240474082181120 ∧ D = 0)), decide_eq_false (fun h => c (i1.1 h.1) : ¬ (pw L = 9218868437227405312 ∧ pw H = 18442240474082181120)), show decide (pw L = 9218868437227405312 ∨ pw L = 18442240474082181120) = decide (L = 9218868437227405312 ∨ L = -9218868437227405312) from by congr 1; apply propext; rw [i1, i2], show decide (pw H = 9218868437227405312 ∨ pw H = 18442240474082181120) = decide (H = 9218868437227405312 ∨ H = -9218868437227405312) from by congr 1; apply propext; rw [i3, i4]]
    have hN : dN L H D = fallN D true true (!decide (L = 9218868437227405312 ∨ L = -9218868437227405312) && !decide (H = 9218868437227405312 ∨ H = -9218868437227405312)) := by
      unfold dN
      rw [decide_eq_false c]; rfl
    rw [hN]
    generalize decide (L = 9218868437227405312 ∨ L = -9218868437227405312) = C1
    generalize decide (H = 9218868437227405312 ∨ H = -9218868437227405312) = C2
    unfold dL dH dR
    have nI : pw L ≠ 9218868437227405312 := fun h => c (i1.1 h)
    by_cases c4 : D = 4
    · subst c4; simp [fallN, c]
    by_cases c8 : D = 8
    · subst c8; simp [fallN, c]
    by_cases c12 : D = 12
    · subst c12; simp [fallN, c]
    by_cases c16 : D = 16
    · subst c16; cases C1 <;> cases C2 <;> simp [fallN, c]
    have h0 : ∀ C, fallN D true true C = 0 := fun C => by unfold fallN; rw [if_neg c16, if_neg c12, if_neg c8, if_neg c4]
    rw [h0]
    simp [c4, c8, c12, c16, nI]
theorem getdeco_ (p : Option Addr) (c N : Nat) (xs : List Int) (w : World) (hx : Arr w p xs) (hl : xs.length = N) (hw : Wb xs) (hc : N ≤ c) : Calls Try.prog 14 #[.slice p N c] w fun e w' => e = .returned (.tuple #[.agg #[.float .f64 (gdX xs), .float .f64 (gdY xs), .int .i64 (gdD xs)], .int .i64 (gdE xs)]) ∧ Kp w w' := by
  subst hl
  by_cases h : xs.length = 17
  · obtain ⟨b, off, rfl, hcell⟩ := hx.at (k := 0) (by omega)
    have HC1 : ∀ w : World, Calls Try.prog 29 #[.slice (some ⟨b, off, none⟩) 17 c, .int .i64 0, .int .i64 16] w fun e w' => e = .returned (.slice (some ⟨b, off, none⟩) 16 16) ∧ w' = w := cut_ b off 17 c 0 16 (by omega) (by decide) (by decide)
    have a1 := Arr.part hcell 0 16
    rw [Nat.add_zero, List.drop_zero] at a1
    have l1 : (xs.take 16).length = 16 := by rw [List.length_take]; omega
    have hg : ∀ W : World, Kp w W → Calls Try.prog 9 #[.slice (some ⟨b, off, none⟩) 16 16] W fun e w' => e = .returned (.tuple #[.agg #[.float .f64 (gX (xs.take 16)), .float .f64 (gY (xs.take 16))], .int .i64 (gE (xs.take 16))]) ∧ Kp W w' := fun W k => get_ _ 16 16 _ W (a1.grown k) l1 (hw.take 16) (Nat.le_refl _)
    have e1 : (xs.take 16).take 8 = xs.take 8 := by rw [List.take_take]; rfl
    have e2 : (xs.take 16).drop 8 = (xs.drop 8).take 8 := by rw [List.drop_take]
    have hD := hw 16
    have hc16 := hcell 16 (by omega)
    have lx : (xs.take 8).length = 8 := by rw [List.length_take]; omega
    have ly : ((xs.drop 8).take 8).length = 8 := by rw [List.length_take, List.length_drop]; omega
    have bx := bv_lt8 _ lx (hw.take 8)
    have bY := bv_lt8 _ ly ((hw.drop 8).take 8)
    rw [h]
    unfold gX gY gE gOk at hg
    rw [e1, e2, decide_eq_true l1, Bool.true_and] at hg
    unfold gdX gdY gdD gdE gdOk
    rw [decide_eq_true h, Bool.true_and]
    generalize bv (xs.take 8) = X at hg bx ⊢
    generalize bv ((xs.drop 8).take 8) = Y at hg bY ⊢
    generalize xs.getD 16 0 = D at hD hc16 ⊢
    cases hv : Fq.vld X Y
    · rw [hv] at hg
      rw [vdD_vld X Y D hv]
      obtain ⟨L2, H2, r2⟩ := Rd.ex 0 0 (by decide) (by decide)
      exact gdecA_ b off c 0 0 D hD.1 hD.2 HC1 w hc16 hg _ _ _ (dread_ 0 0 L2 H2 D r2)
    · rw [hv] at hg
      obtain ⟨L, H, r, eX, eY⟩ := vld_rd X Y bx bY hv
      have hr := dread_ X Y L H D r
      have hvd := vdD_read L H D r.vd
      rw [← eX, ← eY] at hvd
      have o1 : ∃ z, BdZ z ∧ dL X Y L (dN L H D) = pw z := by
        unfold dL
        split
        · exact ⟨9218868437227405312, by unfold BdZ; omega, pw_I.symm⟩
        · exact ⟨L, r.vd.lo, rfl⟩
      have o2 : ∃ z, BdZ z ∧ dH X Y L H (dN L H D) = pw z := by
        unfold dH
        split
        · exact ⟨-9218868437227405312, by unfold BdZ; omega, pw_MI.symm⟩
        · exact ⟨H, r.vd.hi, rfl⟩
      obtain ⟨z1, b1, o1⟩ := o1
      obtain ⟨z2, b2, o2⟩ := o2
      have u1 : (FloatKind.f64.format.order X (dL X Y L (dN L H D)) == some Ordering.eq) = decide (X = dL X Y L (dN L H D)) := by
        rw [o1, eX, peq9 L z1 r.vd.lo b1]; congr 1; apply propext; rw [pw_inj L z1 r.vd.lo b1]
      have u2 : (FloatKind.f64.format.order Y (dH X Y L H (dN L H D)) == some Ordering.eq) = decide (Y = dH X Y L H (dN L H D)) := by
        rw [o2, eY, peq9 H z2 r.vd.hi b2]; congr 1; apply propext; rw [pw_inj H z2 r.vd.hi b2]
      cases hvv : vdD X Y D
      · rw [hvv] at hvd
        exact gdecB_ b off c X Y D hD.1 hD.2 HC1 w hc16 hg _ _ _ hr _ _ _ u1 u2 (beqI _ _) hvd.symm
      · rw [hvv] at hvd
        exact gdecC_ b off c X Y D hD.1 hD.2 HC1 w hc16 hg _ _ _ hr _ _ _ u1 u2 (beqI _ _) hvd.symm
  · unfold gdX gdY gdD gdE gdOk
    rw [decide_eq_false h, Bool.false_and]
    exact gdecN_ p _ c (by simp; omega) w
end B8
end Go.Proofs.Ytbcjhmdkpkmieab
namespace Go.Proofs.Ytbcjhmdkpkmieab
open Go.RowKit
open Go
namespace B8
theorem getD_end8 (xs : List Int) (R : Int) (j : Nat) : (xs ++ [R]).getD j 0 = if j < xs.length then xs.getD j 0 else if j = xs.length then R else 0 := by
  by_cases c : j < xs.length
  · rw [if_pos c]; simp [List.getD, List.getElem?_append, c]
  · rw [if_neg c]
    by_cases d : j = xs.length
    · rw [if_pos d]; simp [List.getD, d]
    · rw [if_neg d]; simp [List.getD, List.getElem?_append, c, show ¬ j - xs.length = 0 from by omega]
set_option maxRecDepth 20000 in
set_option maxHeartbeats 1000000 in
theorem putdecoA_ (a b L H : Nat) (D R : Int) (xs : List Int) (hxs : xs.length = 16) (hR0 : 0 ≤ R) (hR1 : R < 256) (hr : ∀ w : World, Calls Try.prog 38 #[.agg #[.float .f64 a, .float .f64 b, .int .i64 D]] w fun e w' => e = .returned (.agg #[.float .f64 L, .float .f64 H, .int .i64 R]) ∧ Kp w w') (hp : ∀ w : World, Calls Try.prog 10 #[.agg #[.float .f64 L, .float .f64 H]] w fun e w' => ∃ g, e = .returned (.slice (some ⟨g, 0, none⟩) 16 16) ∧ w.heap.size ≤ g ∧ Rw w' g 16 xs ∧ Kp w w') (w : World) : Calls Try.prog 15 #[.agg #[.float .f64 a, .float .f64 b, .int .i64 D]] w fun e w' => ∃ g, e = .returned (.slice (some ⟨g, 0, none⟩) 17 17) ∧ w.heap.size ≤ g ∧ Rw w' g 17 (xs ++ [R]) ∧ Kp w w' := by
  have hmk : ∀ w : World, (Instr.makeSlice 35 (.int .i64 17) (.int .i64 17)).run Try.prog w = .ok (.slice (some ⟨w.heap.size, 0, none⟩) 17 17) (w.alloc (.cells (madeCells #[.int .u8 0] 17) 5)) := mk8 17 (by decide)
  go_enter Try.func15, Try.ntmps15
  go_upto_region 3 with (first | (go_at_call 38; refine (hr _).mono ?_; rintro e w1 ⟨rfl, g1⟩; have q0 := H3c.keep (H3c.new w (.float .f64 a) (.float .f64 b) (.int .i64 D) 41) g1; have kw : Kp w w1 := Kp.trans ((Kp.refl w).alloc _) g1; obtain ⟨x0, x1, x2, x3, x4, x5⟩ := id q0))
  have qx := H3c.put q0 (.float .f64 L) (.float .f64 H) (.int .i64 R)
  have kv : Kp w (((w1.setCell ⟨w.heap.size, 0, none⟩ (.float .f64 L)).setCell ⟨w.heap.size, 1, none⟩ (.float .f64 H)).setCell ⟨w.heap.size, 2, none⟩ (.int .i64 R)) := ((kw.setCell (Nat.le_refl _) _).setCell (Nat.le_refl _) _).setCell (Nat.le_refl _) _
  obtain ⟨W1, hW1⟩ : ∃ W1, W1 = ((w1.setCell ⟨w.heap.size, 0, none⟩ (.float .f64 L)).setCell ⟨w.heap.size, 1, none⟩ (.float .f64 H)).setCell ⟨w.heap.size, 2, none⟩ (.int .i64 R) := ⟨_, rfl⟩
  have hsz : W1.heap.size = w1.heap.size := by rw [hW1]; simp
  rw [← hW1] at qx kv ⊢
  obtain ⟨z0, z1, z2, -, -, -⟩ := id qx
  have hr0 := World.rowIs_made W1 (.int .u8 0) 17 5
  have hk0 : Kp W1 (W1.alloc (.cells (madeCells #[.int .u8 0] 17) 5)) := (Kp.refl W1).alloc _
  obtain ⟨G, hG⟩ : ∃ G, G = w1.heap.size := ⟨_, rfl⟩
  have hGe : W1.heap.size ≤ G := by omega
  rw [hsz, ← hG] at hr0
  rw [← hG]
  have hwG : w.heap.size ≤ G := Nat.le_trans (Below.size kv) hGe
  generalize W1.alloc (.cells (madeCells #[.int .u8 0] 17) 5) = W2 at hr0 hk0 ⊢
  obtain ⟨B, hB⟩ : ∃ B, B = w.heap.size := ⟨_, rfl⟩
  rw [← hB] at z0 z1 z2 ⊢
  have HWB : Hid (w.heap.size ≤ G) := hwG
  have HC1 : ∀ w : World, Calls Try.prog 29 #[.slice (some ⟨G, 0, none⟩) 17 17, .int .i64 0, .int .i64 16] w fun e w' => e = .returned (.slice (some ⟨G, 0, none⟩) 16 16) ∧ w' = w := cut_ G 0 17 17 0 16 (by decide) (by decide) (by decide)
  clear hW1 hsz hG x0 x1 x2 x3 x4 x5 q0 g1 kw hwG hB hr hmk qx
  go_region_held3 (fun w' => w'.cell? ⟨B, 0, none⟩ = some (.float .f64 L) ∧ w'.cell? ⟨B, 1, none⟩ = some (.float .f64 H) ∧ w'.cell? ⟨B, 2, none⟩ = some (.int .i64 R)) (refine ⟨kkeep (W := W1) ?_ z0, kkeep (W := W1) ?_ z1, kkeep (W := W1) ?_ z2⟩ <;> ((repeat (first | with_reducible exact ka3 | with_reducible exact ka2 | with_reducible exact hk0 | with_reducible exact Kp.refl _ | with_reducible refine Kp.drew ?_)); done)) (first | (go_at_call 10; refine (hp _).mono ?_; rintro e v2 ⟨g, rfl, hg, hR, k2⟩; have ka2 : Kp W1 v2 := Kp.trans ?qa k2; (case qa => ((repeat (first | with_reducible exact ka3 | with_reducible exact ka2 | with_reducible exact hk0 | with_reducible exact Kp.refl _ | with_reducible refine Kp.drew ?_)); done)); have kb2 : Kp W2 v2 := Kp.trans ?qb k2; (case qb => first | exact Kp.refl _ | exact (Kp.refl _).drew); obtain ⟨v3, hcp, hr3, hk3⟩ := copy8 v2 G 17 0 16 16 16 (some ⟨g, 0, none⟩) xs _ (rowIs_grown hr0 kb2) (arr_all hR hxs) hxs (by decide); have ka3 : Kp W1 v3 := hk3 W1 hGe ka2) | (go_at_call 29; refine (HC1 _).mono ?_; rintro e w' ⟨rfl, rfl⟩))
  have e16 := hr3.cell (i := 16) (by decide)
  have f16 := hr3.frozen 16
  have y2 := kkeep ka3 z2
  have hcv : R % 256 = R := by omega
  have hR : Rw (v3.setCell ⟨G, 16, none⟩ (.int .u8 R)) G 17 (xs ++ [R]) := World.rowIs.congr (hr3.set 16 (.int .u8 R)) (fun j hj => by
    rw [getD_end8, hxs]
    by_cases c : j = 16
    · rw [if_pos c, if_neg (by omega), if_pos c]
    · rw [if_neg c, if_pos ⟨Nat.zero_le _, by omega⟩, if_pos (by omega)]; rfl)
  have hK : Kp w (v3.setCell ⟨G, 16, none⟩ (.int .u8 R)) := (Kp.trans kv ka3).setCell HWB.out _
  clear hr3 ka3 ka2 kb2 k2 hk3 hr0 hk0 z0 z1 z2 hcp
  go_wp2
  have hle := HWB.out
  exact bodyPost_ret (v := .slice (some ⟨G, 0, none⟩) 17 17) (by simp [results, Try.results15, go_sem]) rfl ⟨G, rfl, hle, hR, hK⟩
end B8
end Go.Proofs.Ytbcjhmdkpkmieab
namespace Go.Proofs.Ytbcjhmdkpkmieab
open Go.RowKit
open Go
namespace B8
set_option maxRecDepth 20000 in
set_option maxHeartbeats 1000000 in
theorem copied_ (p : Option Addr) (c : Nat) (xs : List Int) (w : World) (hx : Arr w p xs) (lx : xs.length ≤ 1099511627776) :
    Calls Try.prog 23 #[.slice p xs.length c] w fun e w' => ∃ v, e = .returned v ∧ Own w' w.heap.size v xs ∧ Kp w w' := by
  obtain ⟨N, hN⟩ : ∃ N, N = xs.length := ⟨_, rfl⟩
  rw [← hN] at lx ⊢
  have HX : Hid (Arr w p xs) := hx
  have HN : Hid (N = xs.length) := hN
  obtain ⟨i0, hi0, hi1, hi2, hi3⟩ := inf8p
  clear hN hx
  go_enter Try.func23, Try.ntmps23
  go_wp2
  go_loopw [3, 4] (fun a i wr => ∃ (v : Value) (j : Nat), v = a ∧ j ≤ N ∧ i = .int .i64 j ∧ Own wr w.heap.size v (xs.take j) ∧ Kp w wr) (fun _ i _ => N - (intOf i).toNat)
  case atStart => exact ⟨_, 0, rfl, Nat.zero_le _, rfl, by simpa using Own.nil w w.heap.size, Kp.refl _⟩
  case round =>
    obtain ⟨v, j, rfl, hj, rfl, hown, hkp⟩ := hrel
    have hN := HN.out
    by_cases cj : j < N
    · obtain ⟨b, off, rfl, hc2⟩ := HX.out.at (k := j) (by omega)
      have e2 := kkeep hkp (hc2 j (by omega))
      have hpush := take_push xs j (by omega)
      have hob := own_block hown
      have hlen : (xs.take j).length = j := by rw [List.length_take]; omega
      have hown' : wr.ownsRow w.heap.size 5 1 v ((xs.take j).length) ((xs.take j).map (Value.int .u8)) := hown
      obtain ⟨Y, hY⟩ : ∃ Y, Y = xs.getD j 0 := ⟨_, rfl⟩
      rw [← hY] at e2 hpush
      have hsz := hkp.size
      clear hc2 hY HX HN hown
      clear hN
      go_wp2_with (first | (at_builtin; refine wpList_append_own _ rfl _ _ 35 rfl w.heap.size 5 i0 (.int .u8 0) 1 1 Try.underlying35 hi0 hi1 hi2 hi3 rfl (by decide) _ _ _ rfl (hown'.alloc _) ⟨wr.heap.size, 0, none⟩ 1 1 [.int .u8 Y] rfl rfl ?c1 ?c2 ?c3 ?c4 ?c5 ?_))
      case c1 =>
        intro j' u hj'
        match j', hj' with
        | 0, hj' => simp at hj'; subst hj'; simp [Addr.add]
      case c2 => intro u hu; simp at hu; subst hu; rfl
      case c3 => unfold maxLen; omega
      case c4 => omega
      case c5 => simp; omega
      intro v' w1 hown2 hgrow _
      have hO : Own w1 w.heap.size v' (xs.take (j + 1)) := by rw [← hpush]; refine Own.push ?_; rw [hlen, List.map_take]; exact hown2
      have hK2 : Kp w w1 := (hkp.alloc _).grown hgrow hob
      clear hown2 hgrow hown' hkp hob e2 hsz hpush hlen
      go_wp2
      exact ⟨⟨_, j + 1, rfl, by omega, by go_num, hO, hK2⟩, by simp [intOf]; omega⟩
    · have hjk : j = N := by omega
      rw [List.take_of_length_le (by omega)] at hown
      clear hN HN HX
      go_wp2
      exact bodyPost_ret (v := v) (by simp [results, Try.results23, go_sem] <;> simp only [*]) rfl ⟨_, rfl, hown, hkp⟩
end B8
end Go.Proofs.Ytbcjhmdkpkmieab
namespace Go.Proofs.Ytbcjhmdkpkmieab
open Go.RowKit
open Go
namespace B8
theorem vld_self (a b : Nat) (ha : a < 18446744073709551616) (hb : b < 18446744073709551616) (h : Fq.vld a b = true) : Fq.rlo a b = a ∧ Fq.rhi a b = b := by
  obtain ⟨L, H, r, e1, e2⟩ := vld_rd a b ha hb h
  exact ⟨r.2.2.2.1.trans e1.symm, r.2.2.2.2.trans e2.symm⟩
theorem gOk_len {xs : List Int} (h : gOk xs = true) : xs.length = 16 := by
  unfold gOk at h
  simp at h
  exact h.1
theorem gOk_vld {xs : List Int} (h : gOk xs = true) : Fq.vld (bv (xs.take 8)) (bv (xs.drop 8)) = true := by
  unfold gOk at h
  simp at h
  exact h.2
theorem gXY_lt (xs : List Int) (hw : Wb xs) : gX xs < 18446744073709551616 ∧ gY xs < 18446744073709551616 := by
  unfold gX gY
  cases h : gOk xs
  · exact ⟨by simp, by simp⟩
  · have hl := gOk_len h
    exact ⟨bv_lt8 _ (by rw [List.length_take]; omega) (hw.take 8), bv_lt8 _ (by rw [List.length_drop]; omega) (hw.drop 8)⟩
theorem fm_get {xs : List Int} (hw : Wb xs) (h : gOk xs = true) : fm (gX xs, gY xs) = xs := by
  have hl := gOk_len h
  have l1 : (xs.take 8).length = 8 := by rw [List.length_take]; omega
  have l2 : (xs.drop 8).length = 8 := by rw [List.length_drop]; omega
  have v := vld_self _ _ (bv_lt8 _ l1 (hw.take 8)) (bv_lt8 _ l2 (hw.drop 8)) (gOk_vld h)
  unfold fm gX gY
  rw [h]
  simp only [if_true]
  rw [v.1, v.2, by8_bv _ l1 (hw.take 8), by8_bv _ l2 (hw.drop 8), List.take_append_drop]
theorem fms_bP {xs : List Int} (hw : Wb xs) : ∀ k, bAll xs k = true → fms (bP xs k) = (xs.drop 1).take (16 * k)
  | 0, _ => rfl
  | k + 1, h => by
    rw [bAll_succ, Bool.and_eq_true] at h
    rw [bP_succ, fms_app, fms_bP hw k h.1]
    simp only [fms, List.append_nil]
    rw [fm_get (pt_wb hw k) h.2, show 16 * (k + 1) = 16 * k + 16 from by omega, List.take_add]
    congr 1
    unfold pt
    rw [List.drop_drop]
theorem bOk_parts {xs : List Int} (h : bOk xs = true) : 0 < xs.length ∧ bN xs ≤ 32 ∧ xs.length = 1 + 16 * bN xs ∧ bAll xs (bN xs) = true := by
  unfold bOk bHd at h
  simp at h
  exact ⟨by omega, h.1.2.1, h.1.2.2, h.2⟩
theorem bb_get_box {xs : List Int} (hw : Wb xs) (h : bOk xs = true) : bb (bL xs) = xs := by
  obtain ⟨h0, h1, h2, h3⟩ := bOk_parts h
  unfold bL
  rw [if_pos h]
  unfold bb
  rw [bP_len, fms_bP hw _ h3, List.take_of_length_le (by rw [List.length_drop]; omega)]
  have e : ((bN xs : Nat) : Int) = xs.getD 0 0 := by unfold bN; exact Int.toNat_of_nonneg (hw 0).1
  rw [e]
  cases xs with
  | nil => simp at h0
  | cons x r => rfl
theorem bL_wq {xs : List Int} (hw : Wb xs) : Wq (bL xs) := by
  unfold bL
  intro j
  by_cases h : bOk xs = true
  · rw [if_pos h]
    by_cases c : j < bN xs
    · rw [bP_get xs _ j c]
      exact gXY_lt _ (pt_wb hw j)
    · rw [List.getD, List.getElem?_eq_none (by rw [bP_len]; omega)]
      exact ⟨by decide, by decide⟩
  · rw [if_neg h]
    exact ⟨by simp, by simp⟩
theorem bL_len {xs : List Int} (h : bOk xs = true) : (bL xs).length = bN xs := by
  unfold bL
  rw [if_pos h, bP_len]
theorem bOk_len (xs : List Int) (h : xs.length ≠ 1 + 16 * bN xs) : bOk xs = false := by
  unfold bOk bHd
  rw [decide_eq_false h]
  simp
theorem gdOk_len {xs : List Int} (h : gdOk xs = true) : xs.length = 17 := by
  unfold gdOk at h
  simp at h
  exact h.1
theorem gdOk_vd {xs : List Int} (h : gdOk xs = true) : vdD (bv (xs.take 8)) (bv ((xs.drop 8).take 8)) (xs.getD 16 0) = true := by
  unfold gdOk at h
  simp at h
  simpa using h.2
end B8
end Go.Proofs.Ytbcjhmdkpkmieab
namespace Go.Proofs.Ytbcjhmdkpkmieab
open Go.RowKit
open Go
namespace B8
set_option linter.unusedVariables false
set_option maxRecDepth 20000 in
set_option maxHeartbeats 1000000 in
theorem onceZ_ (p : Option Addr) (c : Nat) (mo : Int) (w : World)
    (HG : ∀ W : World, Calls Try.prog 9 #[.slice p 0 c] W fun e w' => e = .returned (.tuple #[.agg #[.float .f64 0, .float .f64 0], .int .i64 130]) ∧ Kp W w')
    (HGD : ∀ W : World, Calls Try.prog 14 #[.slice p 0 c] W fun e w' => e = .returned (.tuple #[.agg #[.float .f64 0, .float .f64 0, .int .i64 0], .int .i64 130]) ∧ Kp W w')
    (HGB : ∀ W : World, Calls Try.prog 21 #[.slice p 0 c] W fun e w' => ∃ p d, e = .returned (.tuple #[.slice p 0 d, .int .i64 130]) ∧ Kp W w') : Calls Try.prog 4 #[.slice p 0 c, .int .u8 mo] w fun e w' => e = .returned (.bool true) ∧ Kp w w' := by
  have q1 := Fq.eqInR 0 0
  have q2 := eqIn8 0 0
  rw [show (FloatKind.f64.format.order 0 0 == some Ordering.eq) = true from by decide +kernel] at q1 q2
  go_enter Try.func4, Try.ntmps4
  go_wp2_with (first | (go_at_call 8; refine (awake_ _).mono ?_; rintro e wa ⟨rfl, ga⟩; have kc : Kp w wa := ga) | (go_at_call 9; refine (HG _).mono ?_; rintro e wb ⟨rfl, g1⟩; replace kc := (Kp.trans kc g1).alloc (.cells #[.float .f64 0, .float .f64 0] 31)) | (go_at_call 14; refine (HGD _).mono ?_; rintro e wd ⟨rfl, g2⟩; replace kc := (Kp.trans kc g2).alloc (.cells #[.float .f64 0, .float .f64 0, .int .i64 0] 41)) | (go_at_call 21; refine (HGB _).mono ?_; rintro e w6 ⟨p6, d6, rfl, k6⟩; replace kc := Kp.trans kc k6))
  exact bodyPost_ret (v := .bool true) (by simp [results, Try.results4, go_sem]) rfl ⟨rfl, kc⟩
end B8
end Go.Proofs.Ytbcjhmdkpkmieab
namespace Go.Proofs.Ytbcjhmdkpkmieab
open Go.RowKit
open Go
namespace B8
set_option maxRecDepth 20000 in
theorem slh (g o h n c : Nat) (hh : h ≤ c) (w : World) : (Instr.slice 35 (.slice (some ⟨g, o, none⟩) n c) none (some (.int .i64 (h : Int))) none).run Try.prog w = .ok (.slice (some ⟨g, o, none⟩) h c) w := by
  rw [run_slice_h w 35 (some ⟨g, o, none⟩) n c Try.underlying35 .i64 (h : Int) (by omega) (by omega)]
  have e : (sizeOf (Try.prog.elem 35)).run Try.prog w = .ok 1 w := by kernel_rfl
  rw [e]
  simp [Result.andThen, sliced, addr_add]
end B8
end Go.Proofs.Ytbcjhmdkpkmieab
namespace Go.Proofs.Ytbcjhmdkpkmieab
open Go.RowKit
open Go
namespace B8
set_option linter.unusedVariables false
set_option maxRecDepth 20000 in
set_option maxHeartbeats 2000000 in
theorem onceE_ (b off c N PL X Y P Q : Nat) (D mo : Int) (hm0 : 0 ≤ mo) (hm1 : mo < 256) (xs ys : List Int) (ps : List (Nat × Nat)) (hN0 : 0 < N) (hN1 : N ≤ 1048576) (hxs : xs.length = 16) (hys : ys.length = 15) (hcN : 16 ≤ c) (w : World)
    (HG : ∀ W : World, Kp w W → Calls Try.prog 9 #[.slice (some ⟨b, off, none⟩) 16 c] W fun e w' => e = .returned (.tuple #[.agg #[.float .f64 X, .float .f64 Y], .int .i64 0]) ∧ Kp W w')
    (HGD : ∀ W : World, Kp w W → Calls Try.prog 14 #[.slice (some ⟨b, off, none⟩) 16 c] W fun e w' => e = .returned (.tuple #[.agg #[.float .f64 0, .float .f64 0, .int .i64 0], .int .i64 130]) ∧ Kp W w')
    (HGB : ∀ W : World, Kp w W → Calls Try.prog 21 #[.slice (some ⟨b, off, none⟩) 16 c] W fun e w' => ∃ p d, e = .returned (.tuple #[.slice p 0 d, .int .i64 130]) ∧ Kp W w')
    (HP : ∀ W : World, Calls Try.prog 10 #[.agg #[.float .f64 X, .float .f64 Y]] W fun e w' => ∃ g, e = .returned (.slice (some ⟨g, 0, none⟩) 16 16) ∧ W.heap.size ≤ g ∧ Rw w' g 16 xs ∧ Kp W w')
    (HS : ∀ (g : Nat) (W : World), Kp w W → Arr W (some ⟨g, 0, none⟩) xs → Calls Try.prog 22 #[.slice (some ⟨g, 0, none⟩) 16 16, .slice (some ⟨b, off, none⟩) 16 c] W fun e w' => e = .returned (.bool true) ∧ Kp W w')
    (HC1 : ∀ W : World, Kp w W → Calls Try.prog 23 #[.slice (some ⟨b, off, none⟩) 16 c] W fun e w' => ∃ v, e = .returned v ∧ Own w' W.heap.size v xs ∧ Kp W w')
    (HC2 : ∀ W : World, Kp w W → Calls Try.prog 23 #[.slice (some ⟨b, off, none⟩) 15 c] W fun e w' => ∃ v, e = .returned v ∧ Own w' W.heap.size v ys ∧ Kp W w')
    (HL1 : ∀ (q : Option Addr) (d : Nat) (W : World), 17 ≤ d → Arr W q (xs ++ [mo]) → Calls Try.prog 9 #[.slice q 17 d] W fun e w' => e = .returned (.tuple #[.agg #[.float .f64 0, .float .f64 0], .int .i64 130]) ∧ Kp W w')
    (HL2 : ∀ (q : Option Addr) (d : Nat) (W : World), 15 ≤ d → Arr W q ys → Calls Try.prog 9 #[.slice q 15 d] W fun e w' => e = .returned (.tuple #[.agg #[.float .f64 0, .float .f64 0], .int .i64 130]) ∧ Kp W w')
 : Calls Try.prog 4 #[.slice (some ⟨b, off, none⟩) 16 c, .int .u8 mo] w fun e w' => e = .returned (.bool true) ∧ Kp w w' := by
  obtain ⟨i0, hi0, hi1, hi2, hi3⟩ := inf8p
  have q1 := Fq.eqInR 0 0
  have q2 := eqIn8 0 0
  rw [show (FloatKind.f64.format.order 0 0 == some Ordering.eq) = true from by decide +kernel] at q1 q2
  have hsl := slh b off 15 16 c (by omega)
  go_enter Try.func4, Try.ntmps4
  go_wp2_with (first | (go_at_call 8; refine (awake_ _).mono ?_; rintro e wa ⟨rfl, ga⟩; have kc : Kp w wa := ga) | (go_at_call_of 9 (Value.slice (some ⟨b, off, none⟩) 16 c); refine (HG _ kc).mono ?_; rintro e wb ⟨rfl, g1⟩; replace kc := (Kp.trans kc g1).alloc (.cells #[.float .f64 X, .float .f64 Y] 31)) | (go_at_call_of 14 (Value.slice (some ⟨b, off, none⟩) 16 c); refine (HGD _ kc).mono ?_; rintro e wd ⟨rfl, g2⟩; replace kc := (Kp.trans kc g2).alloc (.cells #[.float .f64 0, .float .f64 0, .int .i64 0] 41)) | (go_at_call 10; refine (HP _).mono ?_; rintro e w4 ⟨g4, rfl, hg4, hR4, k4⟩; replace kc := Kp.trans kc k4; have hs := HS g4 _ kc (arr_all hR4 hxs)) | (go_at_call_of 21 (Value.slice (some ⟨b, off, none⟩) 16 c); refine (HGB _ kc).mono ?_; rintro e w6 ⟨p6, d6, rfl, k6⟩; replace kc := Kp.trans kc k6) | (go_at_call 22; refine hs.mono ?_; rintro e w8 ⟨rfl, k8⟩; replace kc := Kp.trans kc k8; clear hs) | (go_at_call_of 23 (Value.slice (some ⟨b, off, none⟩) 16 c); refine (HC1 _ kc).mono ?_; rintro e wv ⟨v9, rfl, o9, k9⟩; have hsz := Below.size kc; have hsz9 := Below.size k9; replace o9 := o9.mono hsz; replace kc := Kp.trans kc k9; have hob := own_block o9; have hown' : wv.ownsRow w.heap.size 5 1 v9 (xs.length) (xs.map (Value.int .u8)) := o9; rw [hxs] at hown') | (at_builtin; refine wpList_append_own _ rfl _ _ 35 rfl w.heap.size 5 i0 (.int .u8 0) 1 1 Try.underlying35 hi0 hi1 hi2 hi3 rfl (by decide) _ _ _ rfl (hown'.alloc _) ⟨wv.heap.size, 0, none⟩ 1 1 [.int .u8 mo] rfl rfl ?c1 ?c2 ?c3 ?c4 ?c5 ?_))
  case c1 =>
    intro j' u hj'
    match j', hj' with
    | 0, hj' => simp at hj'; subst hj'; simp [Addr.add]
  case c2 => intro u hu; simp at hu; subst hu; rfl
  case c3 => unfold maxLen; omega
  case c4 => omega
  case c5 => simp; omega
  intro v' w2 hown2 hgrow _
  have hO : Own w2 w.heap.size v' (xs ++ [mo]) := by
    refine Own.push ?_
    rw [hxs]
    exact hown2
  replace kc : Kp w w2 := (kc.alloc _).grown hgrow hob
  obtain ⟨pl, dl, rfl, al, hdl⟩ := hO.arr
  have hl9 : (xs ++ [mo]).length = 17 := by rw [List.length_append, hxs]; rfl
  rw [hl9] at hdl
  rw [hl9]
  clear hown2 hgrow hown' hO hl9 hob o9 k9 hsz hsz9
  go_wp2_with (first | (go_at_call 23; refine (HC2 _ kc).mono ?_; rintro e wx ⟨vx, rfl, ox, kx⟩; replace kc := Kp.trans kc kx; replace al := al.grown kx; obtain ⟨px, dx, rfl, ax, hdx⟩ := ox.arr; rw [hys] at hdx; rw [hys]) | (go_at_call_of 9 (Value.slice pl 17 dl); refine (HL1 _ _ _ hdl al).mono ?_; rintro e wg ⟨rfl, kg⟩; replace kc := (Kp.trans kc kg).alloc (.cells #[.float .f64 0, .float .f64 0] 31); replace ax := (ax.grown kg).grown ((Kp.refl _).alloc (.cells #[.float .f64 0, .float .f64 0] 31)); replace al := (al.grown kg).grown ((Kp.refl _).alloc (.cells #[.float .f64 0, .float .f64 0] 31))) | (go_at_call_of 9 (Value.slice px 15 dx); refine (HL2 _ _ _ hdx ax).mono ?_; rintro e wg ⟨rfl, kg⟩; replace kc := (Kp.trans kc kg).alloc (.cells #[.float .f64 0, .float .f64 0] 31); replace ax := (ax.grown kg).grown ((Kp.refl _).alloc (.cells #[.float .f64 0, .float .f64 0] 31)); replace al := (al.grown kg).grown ((Kp.refl _).alloc (.cells #[.float .f64 0, .float .f64 0] 31))))
  exact bodyPost_ret (v := .bool true) (by simp [results, Try.results4, go_sem]) rfl ⟨rfl, kc⟩
end B8
end Go.Proofs.Ytbcjhmdkpkmieab
namespace Go.Proofs.Ytbcjhmdkpkmieab
open Go.RowKit
open Go
namespace B8
set_option linter.unusedVariables false
set_option maxRecDepth 20000 in
set_option maxHeartbeats 2000000 in
theorem onceF_ (b off c N PL X Y P Q : Nat) (D mo : Int) (hm0 : 0 ≤ mo) (hm1 : mo < 256) (xs ys : List Int) (ps : List (Nat × Nat)) (hN0 : 0 < N) (hN1 : N ≤ 1048576) (hxs : xs.length = 17) (hys : ys.length = 16) (hcN : 17 ≤ c) (w : World)
    (HG : ∀ W : World, Kp w W → Calls Try.prog 9 #[.slice (some ⟨b, off, none⟩) 17 c] W fun e w' => e = .returned (.tuple #[.agg #[.float .f64 0, .float .f64 0], .int .i64 130]) ∧ Kp W w')
    (HGD : ∀ W : World, Kp w W → Calls Try.prog 14 #[.slice (some ⟨b, off, none⟩) 17 c] W fun e w' => e = .returned (.tuple #[.agg #[.float .f64 P, .float .f64 Q, .int .i64 D], .int .i64 0]) ∧ Kp W w')
    (HGB : ∀ W : World, Kp w W → Calls Try.prog 21 #[.slice (some ⟨b, off, none⟩) 17 c] W fun e w' => ∃ p d, e = .returned (.tuple #[.slice p 0 d, .int .i64 130]) ∧ Kp W w')
    (HPD : ∀ W : World, Calls Try.prog 15 #[.agg #[.float .f64 P, .float .f64 Q, .int .i64 D]] W fun e w' => ∃ g, e = .returned (.slice (some ⟨g, 0, none⟩) 17 17) ∧ W.heap.size ≤ g ∧ Rw w' g 17 xs ∧ Kp W w')
    (HS : ∀ (g : Nat) (W : World), Kp w W → Arr W (some ⟨g, 0, none⟩) xs → Calls Try.prog 22 #[.slice (some ⟨g, 0, none⟩) 17 17, .slice (some ⟨b, off, none⟩) 17 c] W fun e w' => e = .returned (.bool true) ∧ Kp W w')
    (HC1 : ∀ W : World, Kp w W → Calls Try.prog 23 #[.slice (some ⟨b, off, none⟩) 17 c] W fun e w' => ∃ v, e = .returned v ∧ Own w' W.heap.size v xs ∧ Kp W w')
    (HC2 : ∀ W : World, Kp w W → Calls Try.prog 23 #[.slice (some ⟨b, off, none⟩) 16 c] W fun e w' => ∃ v, e = .returned v ∧ Own w' W.heap.size v ys ∧ Kp W w')
    (HL1 : ∀ (q : Option Addr) (d : Nat) (W : World), 18 ≤ d → Arr W q (xs ++ [mo]) → Calls Try.prog 14 #[.slice q 18 d] W fun e w' => e = .returned (.tuple #[.agg #[.float .f64 0, .float .f64 0, .int .i64 0], .int .i64 130]) ∧ Kp W w')
    (HL2 : ∀ (q : Option Addr) (d : Nat) (W : World), 16 ≤ d → Arr W q ys → Calls Try.prog 14 #[.slice q 16 d] W fun e w' => e = .returned (.tuple #[.agg #[.float .f64 0, .float .f64 0, .int .i64 0], .int .i64 130]) ∧ Kp W w')
 : Calls Try.prog 4 #[.slice (some ⟨b, off, none⟩) 17 c, .int .u8 mo] w fun e w' => e = .returned (.bool true) ∧ Kp w w' := by
  obtain ⟨i0, hi0, hi1, hi2, hi3⟩ := inf8p
  have q1 := Fq.eqInR 0 0
  have q2 := eqIn8 0 0
  rw [show (FloatKind.f64.format.order 0 0 == some Ordering.eq) = true from by decide +kernel] at q1 q2
  have hsl := slh b off 16 17 c (by omega)
  go_enter Try.func4, Try.ntmps4
  go_wp2_with (first | (go_at_call 8; refine (awake_ _).mono ?_; rintro e wa ⟨rfl, ga⟩; have kc : Kp w wa := ga) | (go_at_call_of 9 (Value.slice (some ⟨b, off, none⟩) 17 c); refine (HG _ kc).mono ?_; rintro e wb ⟨rfl, g1⟩; replace kc := (Kp.trans kc g1).alloc (.cells #[.float .f64 0, .float .f64 0] 31)) | (go_at_call_of 14 (Value.slice (some ⟨b, off, none⟩) 17 c); refine (HGD _ kc).mono ?_; rintro e wd ⟨rfl, g2⟩; replace kc := (Kp.trans kc g2).alloc (.cells #[.float .f64 P, .float .f64 Q, .int .i64 D] 41)) | (go_at_call 15; refine (HPD _).mono ?_; rintro e w5 ⟨g5, rfl, hg5, hR5, k5⟩; replace kc := Kp.trans kc k5; have hs := HS g5 _ kc (arr_all hR5 hxs)) | (go_at_call_of 21 (Value.slice (some ⟨b, off, none⟩) 17 c); refine (HGB _ kc).mono ?_; rintro e w6 ⟨p6, d6, rfl, k6⟩; replace kc := Kp.trans kc k6) | (go_at_call 22; refine hs.mono ?_; rintro e w8 ⟨rfl, k8⟩; replace kc := Kp.trans kc k8; clear hs) | (go_at_call_of 23 (Value.slice (some ⟨b, off, none⟩) 17 c); refine (HC1 _ kc).mono ?_; rintro e wv ⟨v9, rfl, o9, k9⟩; have hsz := Below.size kc; have hsz9 := Below.size k9; replace o9 := o9.mono hsz; replace kc := Kp.trans kc k9; have hob := own_block o9; have hown' : wv.ownsRow w.heap.size 5 1 v9 (xs.length) (xs.map (Value.int .u8)) := o9; rw [hxs] at hown') | (at_builtin; refine wpList_append_own _ rfl _ _ 35 rfl w.heap.size 5 i0 (.int .u8 0) 1 1 Try.underlying35 hi0 hi1 hi2 hi3 rfl (by decide) _ _ _ rfl (hown'.alloc _) ⟨wv.heap.size, 0, none⟩ 1 1 [.int .u8 mo] rfl rfl ?c1 ?c2 ?c3 ?c4 ?c5 ?_))
  case c1 =>
    intro j' u hj'
    match j', hj' with
    | 0, hj' => simp at hj'; subst hj'; simp [Addr.add]
  case c2 => intro u hu; simp at hu; subst hu; rfl
  case c3 => unfold maxLen; omega
  case c4 => omega
  case c5 => simp; omega
  intro v' w2 hown2 hgrow _
  have hO : Own w2 w.heap.size v' (xs ++ [mo]) := by
    refine Own.push ?_
    rw [hxs]
    exact hown2
  replace kc : Kp w w2 := (kc.alloc _).grown hgrow hob
  obtain ⟨pl, dl, rfl, al, hdl⟩ := hO.arr
  have hl9 : (xs ++ [mo]).length = 18 := by rw [List.length_append, hxs]; rfl
  rw [hl9] at hdl
  rw [hl9]
  clear hown2 hgrow hown' hO hl9 hob o9 k9 hsz hsz9
  go_wp2_with (first | (go_at_call 23; refine (HC2 _ kc).mono ?_; rintro e wx ⟨vx, rfl, ox, kx⟩; replace kc := Kp.trans kc kx; replace al := al.grown kx; obtain ⟨px, dx, rfl, ax, hdx⟩ := ox.arr; rw [hys] at hdx; rw [hys]) | (go_at_call_of 14 (Value.slice pl 18 dl); refine (HL1 _ _ _ hdl al).mono ?_; rintro e wg ⟨rfl, kg⟩; replace kc := (Kp.trans kc kg).alloc (.cells #[.float .f64 0, .float .f64 0, .int .i64 0] 41); replace ax := (ax.grown kg).grown ((Kp.refl _).alloc (.cells #[.float .f64 0, .float .f64 0, .int .i64 0] 41)); replace al := (al.grown kg).grown ((Kp.refl _).alloc (.cells #[.float .f64 0, .float .f64 0, .int .i64 0] 41))) | (go_at_call_of 14 (Value.slice px 16 dx); refine (HL2 _ _ _ hdx ax).mono ?_; rintro e wg ⟨rfl, kg⟩; replace kc := (Kp.trans kc kg).alloc (.cells #[.float .f64 0, .float .f64 0, .int .i64 0] 41); replace ax := (ax.grown kg).grown ((Kp.refl _).alloc (.cells #[.float .f64 0, .float .f64 0, .int .i64 0] 41)); replace al := (al.grown kg).grown ((Kp.refl _).alloc (.cells #[.float .f64 0, .float .f64 0, .int .i64 0] 41))))
  exact bodyPost_ret (v := .bool true) (by simp [results, Try.results4, go_sem]) rfl ⟨rfl, kc⟩
end B8
end Go.Proofs.Ytbcjhmdkpkmieab
namespace Go.Proofs.Ytbcjhmdkpkmieab
open Go.RowKit
open Go
namespace B8
set_option linter.unusedVariables false
set_option maxRecDepth 20000 in
set_option maxHeartbeats 2000000 in
theorem onceG_ (b off c N PL X Y P Q : Nat) (D mo : Int) (hm0 : 0 ≤ mo) (hm1 : mo < 256) (xs ys : List Int) (ps : List (Nat × Nat)) (hN0 : 0 < N) (hN1 : N ≤ 1048576) (hxs : xs.length = 17) (hys : ys.length = 16) (hcN : 17 ≤ c) (w : World)
    (HG : ∀ W : World, Kp w W → Calls Try.prog 9 #[.slice (some ⟨b, off, none⟩) 17 c] W fun e w' => e = .returned (.tuple #[.agg #[.float .f64 0, .float .f64 0], .int .i64 130]) ∧ Kp W w')
    (HGD : ∀ W : World, Kp w W → Calls Try.prog 14 #[.slice (some ⟨b, off, none⟩) 17 c] W fun e w' => e = .returned (.tuple #[.agg #[.float .f64 P, .float .f64 Q, .int .i64 D], .int .i64 0]) ∧ Kp W w')
    (HGB : ∀ W : World, Kp w W → Calls Try.prog 21 #[.slice (some ⟨b, off, none⟩) 17 c] W fun e w' => ∃ p d, e = .returned (.tuple #[.slice p PL d, .int .i64 0]) ∧ AG FLV w' p ps ∧ Kp W w')
    (HPD : ∀ W : World, Calls Try.prog 15 #[.agg #[.float .f64 P, .float .f64 Q, .int .i64 D]] W fun e w' => ∃ g, e = .returned (.slice (some ⟨g, 0, none⟩) 17 17) ∧ W.heap.size ≤ g ∧ Rw w' g 17 xs ∧ Kp W w')
    (HPB : ∀ (q : Option Addr) (d : Nat) (W : World), AG FLV W q ps → Calls Try.prog 19 #[.slice q PL d] W fun e w' => ∃ g, e = .returned (.tuple #[.slice (some ⟨g, 0, none⟩) 17 17, .int .i64 0]) ∧ W.heap.size ≤ g ∧ Rw w' g 17 xs ∧ Kp W w')
    (HS : ∀ (g : Nat) (W : World), Kp w W → Arr W (some ⟨g, 0, none⟩) xs → Calls Try.prog 22 #[.slice (some ⟨g, 0, none⟩) 17 17, .slice (some ⟨b, off, none⟩) 17 c] W fun e w' => e = .returned (.bool true) ∧ Kp W w')
    (HC1 : ∀ W : World, Kp w W → Calls Try.prog 23 #[.slice (some ⟨b, off, none⟩) 17 c] W fun e w' => ∃ v, e = .returned v ∧ Own w' W.heap.size v xs ∧ Kp W w')
    (HC2 : ∀ W : World, Kp w W → Calls Try.prog 23 #[.slice (some ⟨b, off, none⟩) 16 c] W fun e w' => ∃ v, e = .returned v ∧ Own w' W.heap.size v ys ∧ Kp W w')
    (HL1 : ∀ (q : Option Addr) (d : Nat) (W : World), 18 ≤ d → Arr W q (xs ++ [mo]) → Calls Try.prog 14 #[.slice q 18 d] W fun e w' => e = .returned (.tuple #[.agg #[.float .f64 0, .float .f64 0, .int .i64 0], .int .i64 130]) ∧ Kp W w')
    (HL2 : ∀ (q : Option Addr) (d : Nat) (W : World), 16 ≤ d → Arr W q ys → Calls Try.prog 14 #[.slice q 16 d] W fun e w' => e = .returned (.tuple #[.agg #[.float .f64 0, .float .f64 0, .int .i64 0], .int .i64 130]) ∧ Kp W w')
    (HM1 : ∀ (q : Option Addr) (d : Nat) (W : World), 18 ≤ d → Arr W q (xs ++ [mo]) → Calls Try.prog 21 #[.slice q 18 d] W fun e w' => ∃ p d, e = .returned (.tuple #[.slice p 0 d, .int .i64 130]) ∧ Kp W w')
    (HM2 : ∀ (q : Option Addr) (d : Nat) (W : World), 16 ≤ d → Arr W q ys → Calls Try.prog 21 #[.slice q 16 d] W fun e w' => ∃ p d, e = .returned (.tuple #[.slice p 0 d, .int .i64 130]) ∧ Kp W w')
 : Calls Try.prog 4 #[.slice (some ⟨b, off, none⟩) 17 c, .int .u8 mo] w fun e w' => e = .returned (.bool true) ∧ Kp w w' := by
  obtain ⟨i0, hi0, hi1, hi2, hi3⟩ := inf8p
  have q1 := Fq.eqInR 0 0
  have q2 := eqIn8 0 0
  rw [show (FloatKind.f64.format.order 0 0 == some Ordering.eq) = true from by decide +kernel] at q1 q2
  have hsl := slh b off 16 17 c (by omega)
  go_enter Try.func4, Try.ntmps4
  go_wp2_with (first | (go_at_call 8; refine (awake_ _).mono ?_; rintro e wa ⟨rfl, ga⟩; have kc : Kp w wa := ga) | (go_at_call_of 9 (Value.slice (some ⟨b, off, none⟩) 17 c); refine (HG _ kc).mono ?_; rintro e wb ⟨rfl, g1⟩; replace kc := (Kp.trans kc g1).alloc (.cells #[.float .f64 0, .float .f64 0] 31)) | (go_at_call_of 14 (Value.slice (some ⟨b, off, none⟩) 17 c); refine (HGD _ kc).mono ?_; rintro e wd ⟨rfl, g2⟩; replace kc := (Kp.trans kc g2).alloc (.cells #[.float .f64 P, .float .f64 Q, .int .i64 D] 41)) | (go_at_call 15; refine (HPD _).mono ?_; rintro e w5 ⟨g5, rfl, hg5, hR5, k5⟩; replace kc := Kp.trans kc k5; have hs := HS g5 _ kc (arr_all hR5 hxs)) | (go_at_call_of 21 (Value.slice (some ⟨b, off, none⟩) 17 c); refine (HGB _ kc).mono ?_; rintro e w6 ⟨p6, d6, rfl, a6, k6⟩; replace kc := Kp.trans kc k6) | (go_at_call 19; refine (HPB p6 d6 _ a6).mono ?_; rintro e w7 ⟨g7, rfl, hg7, hR7, k7⟩; replace kc := Kp.trans kc k7; have hs := HS g7 _ kc (arr_all hR7 hxs)) | (go_at_call 22; refine hs.mono ?_; rintro e w8 ⟨rfl, k8⟩; replace kc := Kp.trans kc k8; clear hs) | (go_at_call_of 23 (Value.slice (some ⟨b, off, none⟩) 17 c); refine (HC1 _ kc).mono ?_; rintro e wv ⟨v9, rfl, o9, k9⟩; have hsz := Below.size kc; have hsz9 := Below.size k9; replace o9 := o9.mono hsz; replace kc := Kp.trans kc k9; have hob := own_block o9; have hown' : wv.ownsRow w.heap.size 5 1 v9 (xs.length) (xs.map (Value.int .u8)) := o9; rw [hxs] at hown') | (at_builtin; refine wpList_append_own _ rfl _ _ 35 rfl w.heap.size 5 i0 (.int .u8 0) 1 1 Try.underlying35 hi0 hi1 hi2 hi3 rfl (by decide) _ _ _ rfl (hown'.alloc _) ⟨wv.heap.size, 0, none⟩ 1 1 [.int .u8 mo] rfl rfl ?c1 ?c2 ?c3 ?c4 ?c5 ?_))
  case c1 =>
    intro j' u hj'
    match j', hj' with
    | 0, hj' => simp at hj'; subst hj'; simp [Addr.add]
  case c2 => intro u hu; simp at hu; subst hu; rfl
  case c3 => unfold maxLen; omega
  case c4 => omega
  case c5 => simp; omega
  intro v' w2 hown2 hgrow _
  have hO : Own w2 w.heap.size v' (xs ++ [mo]) := by
    refine Own.push ?_
    rw [hxs]
    exact hown2
  replace kc : Kp w w2 := (kc.alloc _).grown hgrow hob
  obtain ⟨pl, dl, rfl, al, hdl⟩ := hO.arr
  have hl9 : (xs ++ [mo]).length = 18 := by rw [List.length_append, hxs]; rfl
  rw [hl9] at hdl
  rw [hl9]
  clear hown2 hgrow hown' hO hl9 hob o9 k9 hsz hsz9
  go_wp2_with (first | (go_at_call 23; refine (HC2 _ kc).mono ?_; rintro e wx ⟨vx, rfl, ox, kx⟩; replace kc := Kp.trans kc kx; replace al := al.grown kx; obtain ⟨px, dx, rfl, ax, hdx⟩ := ox.arr; rw [hys] at hdx; rw [hys]) | (go_at_call_of 14 (Value.slice pl 18 dl); refine (HL1 _ _ _ hdl al).mono ?_; rintro e wg ⟨rfl, kg⟩; replace kc := (Kp.trans kc kg).alloc (.cells #[.float .f64 0, .float .f64 0, .int .i64 0] 41); replace ax := (ax.grown kg).grown ((Kp.refl _).alloc (.cells #[.float .f64 0, .float .f64 0, .int .i64 0] 41)); replace al := (al.grown kg).grown ((Kp.refl _).alloc (.cells #[.float .f64 0, .float .f64 0, .int .i64 0] 41))) | (go_at_call_of 14 (Value.slice px 16 dx); refine (HL2 _ _ _ hdx ax).mono ?_; rintro e wg ⟨rfl, kg⟩; replace kc := (Kp.trans kc kg).alloc (.cells #[.float .f64 0, .float .f64 0, .int .i64 0] 41); replace ax := (ax.grown kg).grown ((Kp.refl _).alloc (.cells #[.float .f64 0, .float .f64 0, .int .i64 0] 41)); replace al := (al.grown kg).grown ((Kp.refl _).alloc (.cells #[.float .f64 0, .float .f64 0, .int .i64 0] 41))) | (go_at_call_of 21 (Value.slice pl 18 dl); refine (HM1 _ _ _ hdl al).mono ?_; rintro e wg ⟨pg, dg, rfl, kg⟩; replace kc := (Kp.trans kc kg); replace ax := (ax.grown kg); replace al := (al.grown kg)) | (go_at_call_of 21 (Value.slice px 16 dx); refine (HM2 _ _ _ hdx ax).mono ?_; rintro e wg ⟨pg, dg, rfl, kg⟩; replace kc := (Kp.trans kc kg); replace ax := (ax.grown kg); replace al := (al.grown kg)))
  exact bodyPost_ret (v := .bool true) (by simp [results, Try.results4, go_sem]) rfl ⟨rfl, kc⟩
end B8
end Go.Proofs.Ytbcjhmdkpkmieab
namespace Go.Proofs.Ytbcjhmdkpkmieab
open Go.RowKit
open Go
namespace B8
set_option linter.unusedVariables false
set_option maxRecDepth 20000 in
set_option maxHeartbeats 2000000 in
theorem onceB_ (b off c N PL X Y P Q : Nat) (N0 N2 : Nat) (h2 : N2 = N + 1) (h0 : N = N0 + 1) (D mo : Int) (hm0 : 0 ≤ mo) (hm1 : mo < 256) (xs ys : List Int) (ps : List (Nat × Nat)) (hN0 : 0 < N) (hN1 : N ≤ 1048576) (hxs : xs.length = N) (hys : ys.length = N0) (hcN : N ≤ c) (w : World)
    (HG : ∀ W : World, Kp w W → Calls Try.prog 9 #[.slice (some ⟨b, off, none⟩) N c] W fun e w' => e = .returned (.tuple #[.agg #[.float .f64 0, .float .f64 0], .int .i64 130]) ∧ Kp W w')
    (HGD : ∀ W : World, Kp w W → Calls Try.prog 14 #[.slice (some ⟨b, off, none⟩) N c] W fun e w' => e = .returned (.tuple #[.agg #[.float .f64 0, .float .f64 0, .int .i64 0], .int .i64 130]) ∧ Kp W w')
    (HGB : ∀ W : World, Kp w W → Calls Try.prog 21 #[.slice (some ⟨b, off, none⟩) N c] W fun e w' => ∃ p d, e = .returned (.tuple #[.slice p PL d, .int .i64 0]) ∧ AG FLV w' p ps ∧ Kp W w')
    (HPB : ∀ (q : Option Addr) (d : Nat) (W : World), AG FLV W q ps → Calls Try.prog 19 #[.slice q PL d] W fun e w' => ∃ g, e = .returned (.tuple #[.slice (some ⟨g, 0, none⟩) N N, .int .i64 0]) ∧ W.heap.size ≤ g ∧ Rw w' g N xs ∧ Kp W w')
    (HS : ∀ (g : Nat) (W : World), Kp w W → Arr W (some ⟨g, 0, none⟩) xs → Calls Try.prog 22 #[.slice (some ⟨g, 0, none⟩) N N, .slice (some ⟨b, off, none⟩) N c] W fun e w' => e = .returned (.bool true) ∧ Kp W w')
    (HC1 : ∀ W : World, Kp w W → Calls Try.prog 23 #[.slice (some ⟨b, off, none⟩) N c] W fun e w' => ∃ v, e = .returned v ∧ Own w' W.heap.size v xs ∧ Kp W w')
    (HC2 : ∀ W : World, Kp w W → Calls Try.prog 23 #[.slice (some ⟨b, off, none⟩) N0 c] W fun e w' => ∃ v, e = .returned v ∧ Own w' W.heap.size v ys ∧ Kp W w')
    (HM1 : ∀ (q : Option Addr) (d : Nat) (W : World), N2 ≤ d → Arr W q (xs ++ [mo]) → Calls Try.prog 21 #[.slice q N2 d] W fun e w' => ∃ p d, e = .returned (.tuple #[.slice p 0 d, .int .i64 130]) ∧ Kp W w')
    (HM2 : ∀ (q : Option Addr) (d : Nat) (W : World), N0 ≤ d → Arr W q ys → Calls Try.prog 21 #[.slice q N0 d] W fun e w' => ∃ p d, e = .returned (.tuple #[.slice p 0 d, .int .i64 130]) ∧ Kp W w')
 : Calls Try.prog 4 #[.slice (some ⟨b, off, none⟩) N c, .int .u8 mo] w fun e w' => e = .returned (.bool true) ∧ Kp w w' := by
  obtain ⟨i0, hi0, hi1, hi2, hi3⟩ := inf8p
  have q1 := Fq.eqInR 0 0
  have q2 := eqIn8 0 0
  rw [show (FloatKind.f64.format.order 0 0 == some Ordering.eq) = true from by decide +kernel] at q1 q2
  have hsl := slh b off N0 N c (by omega)
  have n0 : ((N : Int) == 0) = false := by simp; omega
  have n1 : ((N : Int) - 1) = (N0 : Int) := by omega
  have H2 : Hid (N2 = N + 1) := h2
  clear h2 h0
  go_enter Try.func4, Try.ntmps4
  go_wp2_with (first | (go_at_call 8; refine (awake_ _).mono ?_; rintro e wa ⟨rfl, ga⟩; have kc : Kp w wa := ga) | (go_at_call_of 9 (Value.slice (some ⟨b, off, none⟩) N c); refine (HG _ kc).mono ?_; rintro e wb ⟨rfl, g1⟩; replace kc := (Kp.trans kc g1).alloc (.cells #[.float .f64 0, .float .f64 0] 31)) | (go_at_call_of 14 (Value.slice (some ⟨b, off, none⟩) N c); refine (HGD _ kc).mono ?_; rintro e wd ⟨rfl, g2⟩; replace kc := (Kp.trans kc g2).alloc (.cells #[.float .f64 0, .float .f64 0, .int .i64 0] 41)) | (go_at_call_of 21 (Value.slice (some ⟨b, off, none⟩) N c); refine (HGB _ kc).mono ?_; rintro e w6 ⟨p6, d6, rfl, a6, k6⟩; replace kc := Kp.trans kc k6) | (go_at_call 19; refine (HPB p6 d6 _ a6).mono ?_; rintro e w7 ⟨g7, rfl, hg7, hR7, k7⟩; replace kc := Kp.trans kc k7; have hs := HS g7 _ kc (arr_all hR7 hxs)) | (go_at_call 22; refine hs.mono ?_; rintro e w8 ⟨rfl, k8⟩; replace kc := Kp.trans kc k8; clear hs) | (go_at_call_of 23 (Value.slice (some ⟨b, off, none⟩) N c); refine (HC1 _ kc).mono ?_; rintro e wv ⟨v9, rfl, o9, k9⟩; have hsz := Below.size kc; have hsz9 := Below.size k9; replace o9 := o9.mono hsz; replace kc := Kp.trans kc k9; have hob := own_block o9; have hown' : wv.ownsRow w.heap.size 5 1 v9 (xs.length) (xs.map (Value.int .u8)) := o9; rw [hxs] at hown') | (at_builtin; refine wpList_append_own _ rfl _ _ 35 rfl w.heap.size 5 i0 (.int .u8 0) 1 1 Try.underlying35 hi0 hi1 hi2 hi3 rfl (by decide) _ _ _ rfl (hown'.alloc _) ⟨wv.heap.size, 0, none⟩ 1 1 [.int .u8 mo] rfl rfl ?c1 ?c2 ?c3 ?c4 ?c5 ?_))
  case c1 =>
    intro j' u hj'
    match j', hj' with
    | 0, hj' => simp at hj'; subst hj'; simp [Addr.add]
  case c2 => intro u hu; simp at hu; subst hu; rfl
  case c3 => unfold maxLen; omega
  case c4 => omega
  case c5 => simp; omega
  intro v' w2 hown2 hgrow _
  have hO : Own w2 w.heap.size v' (xs ++ [mo]) := by
    refine Own.push ?_
    rw [hxs]
    exact hown2
  replace kc : Kp w w2 := (kc.alloc _).grown hgrow hob
  obtain ⟨pl, dl, rfl, al, hdl⟩ := hO.arr
  have hl9 : (xs ++ [mo]).length = N2 := by rw [List.length_append, hxs, H2.out]; rfl
  rw [hl9] at hdl
  rw [hl9]
  clear hown2 hgrow hown' hO hl9 hob o9 k9 hsz hsz9
  go_wp2_with (first | (go_at_call 23; refine (HC2 _ kc).mono ?_; rintro e wx ⟨vx, rfl, ox, kx⟩; replace kc := Kp.trans kc kx; replace al := al.grown kx; obtain ⟨px, dx, rfl, ax, hdx⟩ := ox.arr; rw [hys] at hdx; rw [hys]) | (go_at_call_of 21 (Value.slice pl N2 dl); refine (HM1 _ _ _ hdl al).mono ?_; rintro e wg ⟨pg, dg, rfl, kg⟩; replace kc := (Kp.trans kc kg); replace ax := (ax.grown kg); replace al := (al.grown kg)) | (go_at_call_of 21 (Value.slice px N0 dx); refine (HM2 _ _ _ hdx ax).mono ?_; rintro e wg ⟨pg, dg, rfl, kg⟩; replace kc := (Kp.trans kc kg); replace ax := (ax.grown kg); replace al := (al.grown kg)))
  exact bodyPost_ret (v := .bool true) (by simp [results, Try.results4, go_sem]) rfl ⟨rfl, kc⟩
end B8
end Go.Proofs.Ytbcjhmdkpkmieab
namespace Go.Proofs.Ytbcjhmdkpkmieab
open Go.RowKit
open Go
namespace B8
set_option linter.unusedVariables false
set_option maxRecDepth 20000 in
set_option maxHeartbeats 2000000 in
theorem onceN_ (b off c N PL X Y P Q : Nat) (N0 N2 : Nat) (h2 : N2 = N + 1) (h0 : N = N0 + 1) (D mo : Int) (hm0 : 0 ≤ mo) (hm1 : mo < 256) (xs ys : List Int) (ps : List (Nat × Nat)) (hN0 : 0 < N) (hN1 : N ≤ 1048576) (hxs : xs.length = N) (hys : ys.length = N0) (hcN : N ≤ c) (w : World)
    (HG : ∀ W : World, Kp w W → Calls Try.prog 9 #[.slice (some ⟨b, off, none⟩) N c] W fun e w' => e = .returned (.tuple #[.agg #[.float .f64 0, .float .f64 0], .int .i64 130]) ∧ Kp W w')
    (HGD : ∀ W : World, Kp w W → Calls Try.prog 14 #[.slice (some ⟨b, off, none⟩) N c] W fun e w' => e = .returned (.tuple #[.agg #[.float .f64 0, .float .f64 0, .int .i64 0], .int .i64 130]) ∧ Kp W w')
    (HGB : ∀ W : World, Kp w W → Calls Try.prog 21 #[.slice (some ⟨b, off, none⟩) N c] W fun e w' => ∃ p d, e = .returned (.tuple #[.slice p 0 d, .int .i64 130]) ∧ Kp W w')
    (HC1 : ∀ W : World, Kp w W → Calls Try.prog 23 #[.slice (some ⟨b, off, none⟩) N c] W fun e w' => ∃ v, e = .returned v ∧ Own w' W.heap.size v xs ∧ Kp W w')
    (HC2 : ∀ W : World, Kp w W → Calls Try.prog 23 #[.slice (some ⟨b, off, none⟩) N0 c] W fun e w' => ∃ v, e = .returned v ∧ Own w' W.heap.size v ys ∧ Kp W w')
 : Calls Try.prog 4 #[.slice (some ⟨b, off, none⟩) N c, .int .u8 mo] w fun e w' => e = .returned (.bool true) ∧ Kp w w' := by
  obtain ⟨i0, hi0, hi1, hi2, hi3⟩ := inf8p
  have q1 := Fq.eqInR 0 0
  have q2 := eqIn8 0 0
  rw [show (FloatKind.f64.format.order 0 0 == some Ordering.eq) = true from by decide +kernel] at q1 q2
  have hsl := slh b off N0 N c (by omega)
  have n0 : ((N : Int) == 0) = false := by simp; omega
  have n1 : ((N : Int) - 1) = (N0 : Int) := by omega
  have H2 : Hid (N2 = N + 1) := h2
  clear h2 h0
  go_enter Try.func4, Try.ntmps4
  go_wp2_with (first | (go_at_call 8; refine (awake_ _).mono ?_; rintro e wa ⟨rfl, ga⟩; have kc : Kp w wa := ga) | (go_at_call_of 9 (Value.slice (some ⟨b, off, none⟩) N c); refine (HG _ kc).mono ?_; rintro e wb ⟨rfl, g1⟩; replace kc := (Kp.trans kc g1).alloc (.cells #[.float .f64 0, .float .f64 0] 31)) | (go_at_call_of 14 (Value.slice (some ⟨b, off, none⟩) N c); refine (HGD _ kc).mono ?_; rintro e wd ⟨rfl, g2⟩; replace kc := (Kp.trans kc g2).alloc (.cells #[.float .f64 0, .float .f64 0, .int .i64 0] 41)) | (go_at_call_of 21 (Value.slice (some ⟨b, off, none⟩) N c); refine (HGB _ kc).mono ?_; rintro e w6 ⟨p6, d6, rfl, k6⟩; replace kc := Kp.trans kc k6) | (go_at_call_of 23 (Value.slice (some ⟨b, off, none⟩) N c); refine (HC1 _ kc).mono ?_; rintro e wv ⟨v9, rfl, o9, k9⟩; have hsz := Below.size kc; have hsz9 := Below.size k9; replace o9 := o9.mono hsz; replace kc := Kp.trans kc k9; have hob := own_block o9; have hown' : wv.ownsRow w.heap.size 5 1 v9 (xs.length) (xs.map (Value.int .u8)) := o9; rw [hxs] at hown') | (at_builtin; refine wpList_append_own _ rfl _ _ 35 rfl w.heap.size 5 i0 (.int .u8 0) 1 1 Try.underlying35 hi0 hi1 hi2 hi3 rfl (by decide) _ _ _ rfl (hown'.alloc _) ⟨wv.heap.size, 0, none⟩ 1 1 [.int .u8 mo] rfl rfl ?c1 ?c2 ?c3 ?c4 ?c5 ?_))
  case c1 =>
    intro j' u hj'
    match j', hj' with
    | 0, hj' => simp at hj'; subst hj'; simp [Addr.add]
  case c2 => intro u hu; simp at hu; subst hu; rfl
  case c3 => unfold maxLen; omega
  case c4 => omega
  case c5 => simp; omega
  intro v' w2 hown2 hgrow _
  have hO : Own w2 w.heap.size v' (xs ++ [mo]) := by
    refine Own.push ?_
    rw [hxs]
    exact hown2
  replace kc : Kp w w2 := (kc.alloc _).grown hgrow hob
  obtain ⟨pl, dl, rfl, al, hdl⟩ := hO.arr
  have hl9 : (xs ++ [mo]).length = N2 := by rw [List.length_append, hxs, H2.out]; rfl
  rw [hl9] at hdl
  rw [hl9]
  clear hown2 hgrow hown' hO hl9 hob o9 k9 hsz hsz9
  go_wp2_with (first | (go_at_call 23; refine (HC2 _ kc).mono ?_; rintro e wx ⟨vx, rfl, ox, kx⟩; replace kc := Kp.trans kc kx; replace al := al.grown kx; obtain ⟨px, dx, rfl, ax, hdx⟩ := ox.arr; rw [hys] at hdx; rw [hys]))
  exact bodyPost_ret (v := .bool true) (by simp [results, Try.results4, go_sem]) rfl ⟨rfl, kc⟩
end B8
end Go.Proofs.Ytbcjhmdkpkmieab
namespace Go.Proofs.Ytbcjhmdkpkmieab
open Go.RowKit
open Go
namespace B8
theorem putget_ (xs : List Int) (hw : Wb xs) (h : gOk xs = true) (w : World) : Calls Try.prog 10 #[.agg #[.float .f64 (gX xs), .float .f64 (gY xs)]] w fun e w' => ∃ g, e = .returned (.slice (some ⟨g, 0, none⟩) 16 16) ∧ w.heap.size ≤ g ∧ Rw w' g 16 xs ∧ Kp w w' := by
  have b := gXY_lt xs hw
  have := putn_ (gX xs) (gY xs) b.1 b.2 w
  rw [fm_get hw h] at this
  exact this
theorem putgetdeco_ (xs : List Int) (hw : Wb xs) (h : gdOk xs = true) (w : World) : Calls Try.prog 15 #[.agg #[.float .f64 (gdX xs), .float .f64 (gdY xs), .int .i64 (gdD xs)]] w fun e w' => ∃ g, e = .returned (.slice (some ⟨g, 0, none⟩) 17 17) ∧ w.heap.size ≤ g ∧ Rw w' g 17 xs ∧ Kp w w' := by
  have hl := gdOk_len h
  have hv := gdOk_vd h
  have l1 : (xs.take 8).length = 8 := by rw [List.length_take]; omega
  have l2 : ((xs.drop 8).take 8).length = 8 := by rw [List.length_take, List.length_drop]; omega
  have b1 := bv_lt8 _ l1 (hw.take 8)
  have b2 := bv_lt8 _ l2 ((hw.drop 8).take 8)
  have e1 := by8_bv _ l1 (hw.take 8)
  have e2 := by8_bv _ l2 ((hw.drop 8).take 8)
  have hD := hw 16
  have exs : xs.take 8 ++ (xs.drop 8).take 8 ++ [xs.getD 16 0] = xs := by
    have a1 : xs.take 8 ++ (xs.drop 8).take 8 = xs.take 16 := by rw [← List.take_add]
    rw [a1]
    have a2 : xs.getD 16 0 = xs[16] := by simp [List.getD, show 16 < xs.length from by omega]
    rw [a2, List.take_append_getElem (by omega : 16 < xs.length), List.take_of_length_le (by omega)]
  unfold gdX gdY gdD
  rw [h]
  simp only [if_true]
  have hvl : Fq.vld (bv (xs.take 8)) (bv ((xs.drop 8).take 8)) = true := by
    cases hh : Fq.vld (bv (xs.take 8)) (bv ((xs.drop 8).take 8))
    · rw [vdD_vld _ _ _ hh] at hv; cases hv
    · rfl
  have hp := putn_ _ _ b1 b2
  obtain ⟨L, H, r, eX, eY⟩ := vld_rd _ _ b1 b2 hvl
  have hvs := vld_self _ _ b1 b2 hvl
  have hr := dread_ _ _ L H (xs.getD 16 0) r
  have hvd := vdD_read L H (xs.getD 16 0) r.vd
  rw [← eX, ← eY, hv] at hvd
  have hvd := hvd.symm
  rw [Bool.and_eq_true, Bool.and_eq_true] at hvd
  rw [← of_decide_eq_true hvd.1.1, ← of_decide_eq_true hvd.1.2, ← of_decide_eq_true hvd.2] at hr
  have hfm : fm (bv (xs.take 8), bv ((xs.drop 8).take 8)) = xs.take 8 ++ (xs.drop 8).take 8 := by
    unfold fm
    rw [hvs.1, hvs.2, e1, e2]
  rw [hfm] at hp
  have hq := putdecoA_ _ _ _ _ (xs.getD 16 0) (xs.getD 16 0) (xs.take 8 ++ (xs.drop 8).take 8) (by rw [List.length_append, l1, l2]) hD.1 hD.2 hr hp w
  rw [exs] at hq
  exact hq
theorem get_no (xs : List Int) (p : Option Addr) (d N : Nat) (w : World) (hx : Arr w p xs) (hl : xs.length = N) (hw : Wb xs) (hd : N ≤ d) (h : gOk xs = false) : Calls Try.prog 9 #[.slice p N d] w fun e w' => e = .returned (.tuple #[.agg #[.float .f64 0, .float .f64 0], .int .i64 130]) ∧ Kp w w' := by
  have := get_ p d N xs w hx hl hw hd
  unfold gX gY gE at this
  rw [h] at this
  exact this
theorem getdeco_no (xs : List Int) (p : Option Addr) (d N : Nat) (w : World) (hx : Arr w p xs) (hl : xs.length = N) (hw : Wb xs) (hd : N ≤ d) (h : gdOk xs = false) : Calls Try.prog 14 #[.slice p N d] w fun e w' => e = .returned (.tuple #[.agg #[.float .f64 0, .float .f64 0, .int .i64 0], .int .i64 130]) ∧ Kp w w' := by
  have := getdeco_ p d N xs w hx hl hw hd
  unfold gdX gdY gdD gdE at this
  rw [h] at this
  exact this
theorem getbox_no (xs : List Int) (p : Option Addr) (d N : Nat) (w : World) (hx : Arr w p xs) (hl : xs.length = N) (hw : Wb xs) (hd : N ≤ d) (lx : N ≤ 1048576) (h : bOk xs = false) : Calls Try.prog 21 #[.slice p N d] w fun e w' => ∃ p d, e = .returned (.tuple #[.slice p 0 d, .int .i64 130]) ∧ Kp w w' := by
  have := getbox_ p d N xs w hx hl hw hd lx
  unfold bL bE at this
  rw [h] at this
  exact this.mono fun e w' ⟨p', d', h1, _, _, _, h5⟩ => ⟨p', d', h1, h5⟩
theorem getbox_yes (xs : List Int) (p : Option Addr) (d N : Nat) (w : World) (hx : Arr w p xs) (hl : xs.length = N) (hw : Wb xs) (hd : N ≤ d) (lx : N ≤ 1048576) (h : bOk xs = true) : Calls Try.prog 21 #[.slice p N d] w fun e w' => ∃ p d, e = .returned (.tuple #[.slice p (bN xs) d, .int .i64 0]) ∧ AG FLV w' p (bL xs) ∧ Kp w w' := by
  have := getbox_ p d N xs w hx hl hw hd lx
  rw [bL_len h] at this
  unfold bE at this
  rw [h] at this
  exact this.mono fun e w' ⟨p', d', h1, h2, _, _, h5⟩ => ⟨p', d', h1, h2, h5⟩
theorem putgetbox_ (xs : List Int) (hw : Wb xs) (h : bOk xs = true) (q : Option Addr) (d N : Nat) (hN : xs.length = N) (w : World) (ha : AG FLV w q (bL xs)) : Calls Try.prog 19 #[.slice q (bN xs) d] w fun e w' => ∃ g, e = .returned (.tuple #[.slice (some ⟨g, 0, none⟩) N N, .int .i64 0]) ∧ w.heap.size ≤ g ∧ Rw w' g N xs ∧ Kp w w' := by
  obtain ⟨h0, h1, h2, h3⟩ := bOk_parts h
  have := putboxY_ q d (bL xs) w ha (bL_wq hw) (by rw [bL_len h]; exact h1)
  rw [bb_get_box hw h, bL_len h, ← h2, hN] at this
  exact this
theorem longer_box (xs : List Int) (mo : Int) (h : bOk xs = true) : bOk (xs ++ [mo]) = false := by
  obtain ⟨h0, h1, h2, h3⟩ := bOk_parts h
  refine bOk_len _ ?_
  have e : bN (xs ++ [mo]) = bN xs := by unfold bN; simp [List.getD, h0]
  rw [e, List.length_append]
  simp
  omega
theorem shorter_box (xs : List Int) (h : bOk xs = true) : bOk (xs.take (xs.length - 1)) = false := by
  obtain ⟨h0, h1, h2, h3⟩ := bOk_parts h
  by_cases c : xs.length = 1
  · rw [c]; rfl
  · refine bOk_len _ ?_
    have e : bN (xs.take (xs.length - 1)) = bN xs := by unfold bN; rw [List.getD, List.getD, List.getElem?_take, if_pos (by omega)]
    rw [e, List.length_take]
    omega
theorem oncelaw_ (p : Option Addr) (c : Nat) (xs : List Int) (mo : Int) (w : World) (hx : Arr w p xs) (hw : Wb xs) (hc : xs.length ≤ c) (lx : xs.length ≤ 1048576) (hm : 0 ≤ mo ∧ mo < 256) : Calls Try.prog 4 #[.slice p xs.length c, .int .u8 mo] w fun e w' => e = .returned (.bool true) ∧ Kp w w' := by
  obtain ⟨N, hN⟩ : ∃ N, xs.length = N := ⟨_, rfl⟩
  rw [hN] at hc lx ⊢
  have hmw : Wb [mo] := Wb.mk hm Wb.nil
  have hwl : Wb (xs ++ [mo]) := hw.append hmw
  by_cases hz : N = 0
  · subst hz
    have e : xs = [] := List.length_eq_zero_iff.1 hN
    subst e
    exact onceZ_ p c mo w (fun W => get_no [] p c 0 W (Or.inl rfl) rfl Wb.nil (Nat.zero_le _) rfl) (fun W => getdeco_no [] p c 0 W (Or.inl rfl) rfl Wb.nil (Nat.zero_le _) rfl) (fun W => getbox_no [] p c 0 W (Or.inl rfl) rfl Wb.nil (Nat.zero_le _) (Nat.zero_le _) rfl)
  obtain ⟨b, off, rfl, hcell⟩ := hx.at (k := 0) (by omega)
  have HS : ∀ (g : Nat) (W : World), Kp w W → Arr W (some ⟨g, 0, none⟩) xs → Calls Try.prog 22 #[.slice (some ⟨g, 0, none⟩) N N, .slice (some ⟨b, off, none⟩) N c] W fun e w' => e = .returned (.bool true) ∧ Kp W w' := by
    intro g W k a
    have := same_ (some ⟨g, 0, none⟩) (some ⟨b, off, none⟩) N c xs xs W a (hx.grown k) (by rw [hN]; omega)
    rw [hN, decide_eq_true rfl] at this
    exact this
  have hys : (xs.take (N - 1)).length = N - 1 := by rw [List.length_take]; omega
  have hwy : Wb (xs.take (N - 1)) := hw.take _
  have HC1 : ∀ W : World, Kp w W → Calls Try.prog 23 #[.slice (some ⟨b, off, none⟩) N c] W fun e w' => ∃ v, e = .returned v ∧ Own w' W.heap.size v xs ∧ Kp W w' := by
    intro W k
    have := copied_ (some ⟨b, off, none⟩) c xs W (hx.grown k) (by rw [hN]; omega)
    rw [hN] at this
    exact this
  have HC2 : ∀ W : World, Kp w W → Calls Try.prog 23 #[.slice (some ⟨b, off, none⟩) (N - 1) c] W fun e w' => ∃ v, e = .returned v ∧ Own w' W.heap.size v (xs.take (N - 1)) ∧ Kp W w' := by
    intro W k
    have a := (Arr.part hcell 0 (N - 1)).grown k
    rw [Nat.add_zero, List.drop_zero] at a
    have := copied_ (some ⟨b, off, none⟩) c (xs.take (N - 1)) W a (by rw [hys]; omega)
    rw [hys] at this
    exact this
  have hll : (xs ++ [mo]).length = N + 1 := by rw [List.length_append, hN]; rfl
  have gN : ∀ W : World, Kp w W → gOk xs = false → Calls Try.prog 9 #[.slice (some ⟨b, off, none⟩) N c] W fun e w' => e = .returned (.tuple #[.agg #[.float .f64 0, .float .f64 0], .int .i64 130]) ∧ Kp W w' := fun W k h => get_no xs _ c N W (hx.grown k) hN hw hc h
  have dN : ∀ W : World, Kp w W → gdOk xs = false → Calls Try.prog 14 #[.slice (some ⟨b, off, none⟩) N c] W fun e w' => e = .returned (.tuple #[.agg #[.float .f64 0, .float .f64 0, .int .i64 0], .int .i64 130]) ∧ Kp W w' := fun W k h => getdeco_no xs _ c N W (hx.grown k) hN hw hc h
  have bN_ : ∀ W : World, Kp w W → bOk xs = false → Calls Try.prog 21 #[.slice (some ⟨b, off, none⟩) N c] W fun e w' => ∃ p d, e = .returned (.tuple #[.slice p 0 d, .int .i64 130]) ∧ Kp W w' := fun W k h => getbox_no xs _ c N W (hx.grown k) hN hw hc lx h
  have bY_ : ∀ W : World, Kp w W → bOk xs = true → Calls Try.prog 21 #[.slice (some ⟨b, off, none⟩) N c] W fun e w' => ∃ p d, e = .returned (.tuple #[.slice p (bN xs) d, .int .i64 0]) ∧ AG FLV w' p (bL xs) ∧ Kp W w' := fun W k h => getbox_yes xs _ c N W (hx.grown k) hN hw hc lx h
  have gG : ∀ W : World, Kp w W → gOk xs = true → Calls Try.prog 9 #[.slice (some ⟨b, off, none⟩) N c] W fun e w' => e = .returned (.tuple #[.agg #[.float .f64 (gX xs), .float .f64 (gY xs)], .int .i64 0]) ∧ Kp W w' := by
    intro W k h
    have := get_ (some ⟨b, off, none⟩) c N xs W (hx.grown k) hN hw hc
    unfold gE at this
    rw [h] at this
    exact this
  have dG : ∀ W : World, Kp w W → gdOk xs = true → Calls Try.prog 14 #[.slice (some ⟨b, off, none⟩) N c] W fun e w' => e = .returned (.tuple #[.agg #[.float .f64 (gdX xs), .float .f64 (gdY xs), .int .i64 (gdD xs)], .int .i64 0]) ∧ Kp W w' := by
    intro W k h
    have := getdeco_ (some ⟨b, off, none⟩) c N xs W (hx.grown k) hN hw hc
    unfold gdE at this
    rw [h] at this
    exact this
  have bM1 : bOk xs = true → ∀ (q : Option Addr) (d : Nat) (W : World), N + 1 ≤ d → Arr W q (xs ++ [mo]) → Calls Try.prog 21 #[.slice q (N + 1) d] W fun e w' => ∃ p d, e = .returned (.tuple #[.slice p 0 d, .int .i64 130]) ∧ Kp W w' := fun h q d W hd a => getbox_no (xs ++ [mo]) q d (N + 1) W a hll hwl hd (by have := (bOk_parts h).2; omega) (longer_box xs mo h)
  have bM2 : bOk xs = true → ∀ (q : Option Addr) (d : Nat) (W : World), N - 1 ≤ d → Arr W q (xs.take (N - 1)) → Calls Try.prog 21 #[.slice q (N - 1) d] W fun e w' => ∃ p d, e = .returned (.tuple #[.slice p 0 d, .int .i64 130]) ∧ Kp W w' := fun h q d W hd a => getbox_no (xs.take (N - 1)) q d (N - 1) W a hys hwy hd (by omega) (by rw [← hN]; exact shorter_box xs h)
  cases hg : gOk xs
  · cases hd : gdOk xs
    · cases hb : bOk xs
      · exact onceN_ b off c N 0 0 0 0 0 (N - 1) (N + 1) rfl (by omega) 0 mo hm.1 hm.2 xs _ [] (by omega) lx hN hys hc w (fun W k => gN W k hg) (fun W k => dN W k hd) (fun W k => bN_ W k hb) HC1 HC2
      · exact onceB_ b off c N (bN xs) 0 0 0 0 (N - 1) (N + 1) rfl (by omega) 0 mo hm.1 hm.2 xs _ (bL xs) (by omega) lx hN hys hc w (fun W k => gN W k hg) (fun W k => dN W k hd) (fun W k => bY_ W k hb) (fun q d W a => putgetbox_ xs hw hb q d N hN W a) HS HC1 HC2 (bM1 hb) (bM2 hb)
    · have h17 : N = 17 := by rw [← hN]; exact gdOk_len hd
      subst h17
      have L1 : ∀ (q : Option Addr) (d : Nat) (W : World), 18 ≤ d → Arr W q (xs ++ [mo]) → Calls Try.prog 14 #[.slice q 18 d] W fun e w' => e = .returned (.tuple #[.agg #[.float .f64 0, .float .f64 0, .int .i64 0], .int .i64 130]) ∧ Kp W w' := fun q d W hd a => getdeco_no (xs ++ [mo]) q d 18 W a hll hwl hd (by unfold gdOk; rw [hll]; rfl)
      have L2 : ∀ (q : Option Addr) (d : Nat) (W : World), 16 ≤ d → Arr W q (xs.take 16) → Calls Try.prog 14 #[.slice q 16 d] W fun e w' => e = .returned (.tuple #[.agg #[.float .f64 0, .float .f64 0, .int .i64 0], .int .i64 130]) ∧ Kp W w' := fun q d W hd a => getdeco_no (xs.take 16) q d 16 W a hys hwy hd (by unfold gdOk; rw [show (xs.take 16).length = 16 from hys]; rfl)
      cases hb : bOk xs
      · exact onceF_ b off c 17 0 0 0 (gdX xs) (gdY xs) (gdD xs) mo hm.1 hm.2 xs _ [] (by decide) (by decide) hN hys hc w (fun W k => gN W k hg) (fun W k => dG W k hd) (fun W k => bN_ W k hb) (fun W => putgetdeco_ xs hw hd W) HS HC1 HC2 L1 L2
      · exact onceG_ b off c 17 (bN xs) 0 0 (gdX xs) (gdY xs) (gdD xs) mo hm.1 hm.2 xs _ (bL xs) (by decide) (by decide) hN hys hc w (fun W k => gN W k hg) (fun W k => dG W k hd) (fun W k => bY_ W k hb) (fun W => putgetdeco_ xs hw hd W) (fun q d W a => putgetbox_ xs hw hb q d 17 hN W a) HS HC1 HC2 L1 L2 (bM1 hb) (bM2 hb)
  · have h16 : N = 16 := by rw [← hN]; exact gOk_len hg
    subst h16
    have hd : gdOk xs = false := by unfold gdOk; rw [hN]; rfl
    have hb : bOk xs = false := by
      refine bOk_len _ ?_
      rw [hN]; omega
    exact onceE_ b off c 16 0 (gX xs) (gY xs) 0 0 0 mo hm.1 hm.2 xs _ [] (by decide) (by decide) hN hys hc w (fun W k => gG W k hg) (fun W k => dN W k hd) (fun W k => bN_ W k hb) (fun W => putget_ xs hw hg W) HS HC1 HC2 (fun q d W hd a => get_no (xs ++ [mo]) q d 17 W a hll hwl hd (by unfold gOk; rw [hll]; rfl)) (fun q d W hd a => get_no (xs.take 15) q d 15 W a hys hwy hd (by unfold gOk; rw [show (xs.take 15).length = 15 from hys]; rfl))
end B8
end Go.Proofs.Ytbcjhmdkpkmieab
