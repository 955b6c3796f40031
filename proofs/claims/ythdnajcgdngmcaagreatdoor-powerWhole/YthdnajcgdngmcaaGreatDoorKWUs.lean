import Derived.Test.YthdnajcgdngmcaaGreatDoorKIJ
import Derived.Test.YthdnajcgdngmcaaGreatDoorKWTe
namespace Go.Proofs.YthdnajcgdngmcaaGreatDoor
open Go.RowKit
set_option linter.unusedVariables false
set_option linter.unusedVariables false

theorem opP_pw (x : Int) (h : BdZ x) : opP (pw x) = pw (-x) := by
  have h2 := abs_pw x h
  unfold opP pw Fq.wD
  rcases Int.lt_trichotomy x 0 with c | c | c
  · rw [decide_eq_true c, decide_eq_false (show ¬ -x < 0 by omega), Int.natAbs_neg]
    simp; repeat' split
    all_goals omega
  · subst c; rfl
  · rw [decide_eq_false (show ¬ x < 0 by omega), decide_eq_true (show -x < 0 by omega), Int.natAbs_neg]
    simp; repeat' split
    all_goals omega
theorem bd_neg (x : Int) (h : BdZ x) : BdZ (-x) := by unfold BdZ at *; omega
theorem minus9_ (x : Int) (h : BdZ x) (w : World) : Calls Tryz.prog 67 #[.float .f64 (pw x)] w fun e w' => e = .returned (.float .f64 (pw (-x))) ∧ w' = w := by
  have g := minus6_ (decide (x < 0)) x.natAbs (abs_pw x h) w
  have e := opP_pw x h
  unfold pw at e ⊢
  rw [e] at g
  exact g
theorem neg9_ (a b : Nat) (L H : Int) (hx : Rd a b L H) (w : World) : Calls Tryz.prog 30 #[.agg #[.float .f64 a, .float .f64 b]] w fun e w' => e = .returned (.agg #[.float .f64 (pw (-H)), .float .f64 (pw (-L))]) ∧ Kp w w' :=
  neg6c_ a b _ _ _ _ hx.call (minus9_ L hx.vd.lo) (minus9_ H hx.vd.hi) w
theorem empty9_ (w : World) : Calls Tryz.prog 51 #[] w fun e w' => e = .returned (.agg #[.float .f64 9218868437227405312, .float .f64 18442240474082181120]) ∧ Kp w w' := by
  refine (Fq.empty6_ w).mono ?_
  exact fun e w' h => ⟨h.1, by first | exact h.2 | (rw [h.2]; exact (Kp.refl _).alloc _)⟩
theorem max3A_ (X Y R S : Nat) (ho : (FloatKind.f64.format.order X Y = some .lt ∧ R = Y) ∨ (FloatKind.f64.format.order X Y = some .gt ∧ R = X) ∨ (X = Y ∧ R = X ∧ FloatKind.f64.format.order X X = some .eq)) (hz : (FloatKind.f64.format.order R 0 = some .lt ∧ S = 0) ∨ (FloatKind.f64.format.order R 0 = some .gt ∧ S = R) ∨ (R = 0 ∧ S = 0 ∧ FloatKind.f64.format.order 0 0 = some .eq)) (ts : Array TypeId) (t : TypeId) (w : World) : (Builtin.max_ ts t #[.float .f64 X, .float .f64 Y, .float .f64 0]).run Tryz.prog w = .ok (.float .f64 S) w := by
  rcases ho with ⟨h, rfl⟩ | ⟨h, rfl⟩ | ⟨rfl, rfl, h⟩ <;> rcases hz with ⟨h2, rfl⟩ | ⟨h2, rfl⟩ | ⟨rfl, rfl, h2⟩ <;> simp [Builtin.max_, Builtin.max2, h, h2]

def sMl (L H : Int) : Int := if L ≤ 0 ∧ 0 ≤ H then 0 else min (L.natAbs : Int) (H.natAbs : Int)
def sMh (L H : Int) : Int := max (L.natAbs : Int) (H.natAbs : Int)
theorem max3_9 (x y : Int) (hx : BdZ x) (hy : BdZ y) (ts : Array TypeId) (t : TypeId) (w : World) : (Builtin.max_ ts t #[.float .f64 (pw x), .float .f64 (pw y), .float .f64 0]).run Tryz.prog w = .ok (.float .f64 (pw (max (max x y) 0))) w := by
  have h0 : BdZ 0 := by unfold BdZ; omega
  have p0 : pw 0 = 0 := by decide
  refine max3A_ (pw x) (pw y) (pw (max x y)) _ ?_ ?_ ts t w
  · have o := ord_pw x y hx hy
    rcases Int.lt_trichotomy x y with g | g | g
    · rw [Fq.cmp_lt g] at o; exact Or.inl ⟨o, by rw [show max x y = y from by omega]⟩
    · rw [Fq.cmp_eq g] at o; exact Or.inr (Or.inr ⟨by rw [g], by rw [show max x y = x from by omega], by rw [← g] at o; exact o⟩)
    · rw [Fq.cmp_gt g] at o; exact Or.inr (Or.inl ⟨o, by rw [show max x y = x from by omega]⟩)
  · have o := ord_pw (max x y) 0 (bd_max x y hx hy) h0
    rw [p0] at o
    generalize max x y = z at *
    rcases Int.lt_trichotomy z 0 with g | g | g
    · rw [Fq.cmp_lt g] at o; exact Or.inl ⟨o, by rw [show max z 0 = 0 from by omega, p0]⟩
    · rw [Fq.cmp_eq g] at o; rw [g, p0] at o; exact Or.inr (Or.inr ⟨by rw [g, p0], by rw [show max z 0 = 0 from by omega, p0], o⟩)
    · rw [Fq.cmp_gt g] at o; exact Or.inr (Or.inl ⟨o, by rw [show max z 0 = z from by omega]⟩)
def bsLo (L H : Int) : Int := if L = 9218868437227405312 then 9218868437227405312 else sMl L H
def bsHi (L H : Int) : Int := if L = 9218868437227405312 then -9218868437227405312 else sMh L H
theorem absP9_ (a b : Nat) (L H : Int) (hx : Rd a b L H) (w : World) : Calls Tryz.prog 25 #[.agg #[.float .f64 a, .float .f64 b]] w fun e w' => e = .returned (.agg #[.float .f64 (pw (bsLo L H)), .float .f64 (pw (bsHi L H))]) ∧ Kp w w' := by
  have hv := fun w => voidP9_ L H hx.vd w
  have hd := hx.vd
  unfold bsLo bsHi
  by_cases c : L = 9218868437227405312
  · have eH : H = -9218868437227405312 := by unfold VdZ at hd; omega
    rw [decide_eq_true c] at hv
    rw [if_pos c, if_pos c]
    have h := absV_ a b _ _ hx.call hv w
    rw [c, eH] at h
    exact h
  · rw [decide_eq_false c] at hv
    rw [if_neg c, if_neg c]
    have e1 : max (max L (-H)) 0 = sMl L H := by unfold sMl; unfold VdZ at hd; split <;> omega
    have e2 : max H (-L) = sMh L H := by unfold sMh; unfold VdZ at hd; omega
    have m1 := fun ts t w => max3_9 L (-H) hd.lo (bd_neg H hd.hi) ts t w
    have m2 := fun ts t w => max9_ H (-L) hd.hi (bd_neg L hd.lo) ts t w
    rw [e1] at m1
    rw [e2] at m2
    exact absS_ a b _ _ hx.call hv _ _ _ _ (neg9_ _ _ L H (Rd.of hd)) m1 m2 w
set_option linter.unusedVariables false
def nLo (K : Nat) (N L H : Int) : Int := if L = 9218868437227405312 then 9218868437227405312 else if N < -1024 ∨ 1024 < N then -9218868437227405312 else if N < 0 then (if L = 0 ∧ H = 0 then 9218868437227405312 else if N % 2 = 0 then pnZ K (-1) N (sMh L H) else if (L < 0 ∧ 0 < H) ∨ H = 0 then -9218868437227405312 else pnZ K (-1) N H) else if N % 2 = 0 then pnZ K (-1) N (sMl L H) else pnZ K (-1) N L
def nHi (K : Nat) (N L H : Int) : Int := if L = 9218868437227405312 then -9218868437227405312 else if N < -1024 ∨ 1024 < N then 9218868437227405312 else if N < 0 then (if L = 0 ∧ H = 0 then -9218868437227405312 else if N % 2 = 0 then pnZ K 1 N (sMl L H) else if L < 0 ∧ 0 < H then 9218868437227405312 else pnZ K 1 N L) else if N % 2 = 0 then pnZ K 1 N (sMh L H) else pnZ K 1 N H
set_option linter.unusedVariables false

theorem entire7_ (w : World) : Calls Tryz.prog 43 #[] w fun e w' => e = .returned (.agg #[.float .f64 18442240474082181120, .float .f64 9218868437227405312]) ∧ Kp w w' := by
  refine (Fq.entire6_ w).mono ?_
  rintro e w' ⟨rfl, h⟩
  exact ⟨rfl, by first | exact h | (subst h; exact (Kp.refl w).alloc _)⟩
def TU7 (w : World) : Prop := Tab w ∧ Fq.Tab w
theorem TU7.kp {w w' : World} (h : TU7 w) (g : Kp w w') : TU7 w' := ⟨h.1.grown g, h.2.grown g⟩
theorem powersZ_ (K : Nat) (hK : K = 1074) (x y N : Int) (hx : BdZ x) (hy : BdZ y) (h1 : -1024 ≤ N) (h2 : N ≤ 1024) (w : World) (hT : TU7 w) : Calls Tryz.prog 45 #[.float .f64 (pw x), .float .f64 (pw y), .int .i64 N] w fun e w' => e = .returned (.agg #[.float .f64 (pw (pnZ K (-1) N x)), .float .f64 (pw (pnZ K 1 N y))]) ∧ Kp w w' :=
  powersA_ _ _ _ _ N (Or.inr trivial) w (fun W g => powZ_ K hK (-1) x N hx h1 h2 (by omega) (by omega) W (hT.kp g).1 (hT.kp g).2) (fun W g => powZ_ K hK 1 y N hy h1 h2 (by omega) (by omega) W (hT.kp g).1 (hT.kp g).2)
theorem sM_bd (L H : Int) (h1 : BdZ L) (h2 : BdZ H) : BdZ (sMl L H) ∧ BdZ (sMh L H) := by
  unfold sMl sMh BdZ at *
  split <;> omega
theorem tmod2 (N : Int) : (N.tmod 2 == 0) = decide (N % 2 = 0) := by
  rcases Int.lt_or_le N 0 with c | c
  · have e : N.tmod 2 = -((-N).tmod 2) := by rw [Int.neg_tmod]; omega
    have e2 : (-N).tmod 2 = (-N) % 2 := Int.tmod_eq_emod_of_nonneg (by omega)
    rw [e, e2]
    by_cases g : N % 2 = 0
    · rw [decide_eq_true g]; simp; omega
    · rw [decide_eq_false g]; simp; omega
  · rw [Int.tmod_eq_emod_of_nonneg c]
    by_cases g : N % 2 = 0
    · rw [decide_eq_true g]; simp [g]
    · rw [decide_eq_false g]; simp [g]
theorem inv9_ (K : Nat) (hK : K = 1074) (L H N : Int) (hd : VdZ L H) (n : L ≠ 9218868437227405312) (h1 : -1024 ≤ N) (h2 : N < 0) (w : World) (hT : TU7 w) : Calls Tryz.prog 44 #[.agg #[.float .f64 (pw L), .float .f64 (pw H)], .int .i64 N] w fun e w' => e = .returned (.agg #[.float .f64 (pw (nLo K N L H)), .float .f64 (pw (nHi K N L H))]) ∧ Kp w w' := by
  have b1 := hd.lo
  have b2 := hd.hi
  have bs := sM_bd L H b1 b2
  have e1 := eq0_pw7 L b1
  have e2 := eq0_pw7 H b2
  have e3 := lt0_pw7 L b1
  have e4 := gt0_pw7 H b2
  have t := tmod2 N
  unfold nLo nHi
  rw [if_neg n, if_neg n, if_neg (show ¬ (N < -1024 ∨ 1024 < N) by omega), if_neg (show ¬ (N < -1024 ∨ 1024 < N) by omega), if_pos h2, if_pos h2]
  by_cases z : L = 0 ∧ H = 0
  · rw [if_pos z, if_pos z, pw_I, pw_MI]
    rw [decide_eq_true z.1] at e1
    rw [decide_eq_true z.2] at e2
    exact invnZ_ _ _ N e1 e2 w (fun W g => empty9_ W)
  rw [if_neg z, if_neg z]
  have tz : (decide (L = 0) && decide (H = 0)) = false := by
    by_cases a : L = 0 <;> by_cases b : H = 0 <;> simp [a, b]
    exact absurd ⟨a, b⟩ z
  by_cases g : N % 2 = 0
  · rw [if_pos g, if_pos g]
    rw [decide_eq_true g] at t
    refine invnA_ _ _ N _ _ e1 e2 tz t (pw (sMl L H)) (pw (sMh L H)) _ _ w (fun W k => ?_) (fun W k => powersZ_ K hK _ _ N bs.2 bs.1 h1 (by omega) W (hT.kp k))
    have h := absP9_ _ _ L H (Rd.of hd) W
    unfold bsLo bsHi at h
    rw [if_neg n, if_neg n] at h
    exact h
  rw [if_neg g, if_neg g]
  rw [decide_eq_false g] at t
  by_cases s : L < 0 ∧ 0 < H
  · rw [if_pos (Or.inl s), if_pos s, pw_I, pw_MI]
    rw [decide_eq_true s.1] at e3
    rw [decide_eq_true s.2] at e4
    exact invnS_ _ _ N _ _ e1 e2 tz t e3 e4 w (fun W k => entire7_ W)
  have ty : (decide (L < 0) && decide (0 < H)) = false := by
    by_cases a : L < 0 <;> by_cases b : 0 < H <;> simp [a, b] <;> omega
  rw [if_neg s]
  by_cases q : H = 0
  · rw [if_pos (Or.inr q), pw_MI]
    rw [decide_eq_true q] at e2
    rw [decide_eq_false (show ¬ L = 0 by omega)] at e1
    exact invnH_ _ _ N e1 e2 t _ _ e3 e4 ty _ w (fun W k => powZ_ K hK 1 L N b1 h1 (by omega) (by omega) (by omega) W (hT.kp k).1 (hT.kp k).2)
  · rw [if_neg (show ¬ ((L < 0 ∧ 0 < H) ∨ H = 0) by omega)]
    exact invnP_ _ _ N _ _ e1 e2 tz t _ _ e3 e4 ty (decide_eq_false q) _ _ w (fun W k => powersZ_ K hK H L N b2 b1 h1 (by omega) W (hT.kp k))
theorem pown9_ (K : Nat) (hK : K = 1074) (a b : Nat) (L H N : Int) (hx : Rd a b L H) (w : World) (hT : TU7 w) : Calls Tryz.prog 11 #[.agg #[.float .f64 a, .float .f64 b], .int .i64 N] w fun e w' => e = .returned (.agg #[.float .f64 (pw (nLo K N L H)), .float .f64 (pw (nHi K N L H))]) ∧ Kp w w' := by
  have hd := hx.vd
  have hv := fun w => voidP9_ L H hd w
  have bs := sM_bd L H hd.lo hd.hi
  by_cases c : L = 9218868437227405312
  · have eH : H = -9218868437227405312 := by unfold VdZ at hd; omega
    rw [decide_eq_true c] at hv
    unfold nLo nHi
    rw [if_pos c, if_pos c]
    have h := pownV_ a b _ _ N hx.call hv w
    rw [c, eH] at h
    exact h
  rw [decide_eq_false c] at hv
  by_cases c1 : N < -1024
  · unfold nLo nHi
    rw [if_neg c, if_neg c, if_pos (Or.inl c1), if_pos (Or.inl c1), pw_I, pw_MI]
    exact pownE1_ a b _ _ N hx.call hv c1 w (fun W k => entire7_ W)
  by_cases c2 : 1024 < N
  · unfold nLo nHi
    rw [if_neg c, if_neg c, if_pos (Or.inr c2), if_pos (Or.inr c2), pw_I, pw_MI]
    exact pownE2_ a b _ _ N hx.call hv c1 c2 w (fun W k => entire7_ W)
  by_cases c3 : N < 0
  · exact pownI_ a b _ _ N hx.call hv c1 c2 c3 _ _ w (fun W k => inv9_ K hK L H N hd c (by omega) c3 W (hT.kp k))
  unfold nLo nHi
  rw [if_neg c, if_neg c, if_neg (show ¬ (N < -1024 ∨ 1024 < N) by omega), if_neg (show ¬ (N < -1024 ∨ 1024 < N) by omega), if_neg c3, if_neg c3]
  by_cases g : N % 2 = 0
  · rw [if_pos g, if_pos g]
    refine pownA_ a b _ _ N hx.call hv c1 c2 c3 (by simp [g]) (pw (sMl L H)) (pw (sMh L H)) _ _ w (fun W k => ?_) (fun W k => powersZ_ K hK _ _ N bs.1 bs.2 (by omega) (by omega) W (hT.kp k))
    have h := absP9_ _ _ L H (Rd.of hd) W
    unfold bsLo bsHi at h
    rw [if_neg c, if_neg c] at h
    exact h
  · rw [if_neg g, if_neg g]
    exact pownO_ a b _ _ N hx.call hv c1 c2 c3 (by simp [g]) _ _ w (fun W k => powersZ_ K hK L H N hd.lo hd.hi (by omega) (by omega) W (hT.kp k))

def H6 (w : World) (B : Nat) (a b c d e f : Value) : Prop := Fq.H2 w B a b ∧ Fq.H2 w (B + 1) c d ∧ Fq.H2 w (B + 2) e f
theorem H6.keep {W w : World} {B : Nat} {a b c d e f : Value} (h : H6 W B a b c d e f) (g : Kp W w) : H6 w B a b c d e f := ⟨Fq.H2.keep h.1 g, Fq.H2.keep h.2.1 g, Fq.H2.keep h.2.2 g⟩
theorem H6.new (w : World) (a b c d e f : Value) (s t u : TypeId) : H6 (((w.alloc (.cells #[a, b] s)).alloc (.cells #[c, d] t)).alloc (.cells #[e, f] u)) w.heap.size a b c d e f := by
  refine ⟨?_, ?_, ?_⟩ <;> (unfold Fq.H2; simp [go_sem])
theorem H6.put {w : World} {B : Nat} {a b c d e f : Value} (h : H6 w B a b c d e f) (a' b' c' d' : Value) : H6 ((((w.setCell ⟨B, 0, none⟩ a').setCell ⟨B, 1, none⟩ b').setCell ⟨B + 1, 0, none⟩ c').setCell ⟨B + 1, 1, none⟩ d') B a' b' c' d' e f := by
  refine ⟨?_, ?_, ?_⟩
  · exact Fq.H2.far (Fq.H2.put h.1 a' b') (by omega) c' d'
  · exact Fq.H2.put (Fq.H2.far h.2.1 (by omega) a' b') c' d'
  · exact Fq.H2.far (Fq.H2.far h.2.2 (by omega) a' b') (by omega) c' d'
end Go.Proofs.YthdnajcgdngmcaaGreatDoor
