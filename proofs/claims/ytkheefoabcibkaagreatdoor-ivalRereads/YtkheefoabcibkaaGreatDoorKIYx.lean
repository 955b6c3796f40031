import Derived.Test.YtkheefoabcibkaaGreatDoorKIYi
import Derived.Test.YtkheefoabcibkaaGreatDoorKIYj
import Derived.Test.YtkheefoabcibkaaGreatDoorKIYk
import Derived.Test.YtkheefoabcibkaaGreatDoorKIYw
namespace Go.Proofs.YtkheefoabcibkaaGreatDoor
open Go.RowKit
set_option linter.unusedVariables false

def bLo (K : Nat) (L1 H1 L2 H2 : Int) : Int := if L2 = 0 ∧ H2 = 0 then 9218868437227405312 else if L1 = 0 ∧ H1 = 0 then 0 else if L2 < 0 ∧ 0 < H2 then -9218868437227405312 else if L1 < 0 ∧ 0 < H1 then -9218868437227405312 else if L2 = 0 ∧ 0 ≤ L1 then diZ K (-1) L1 H2 else if L2 = 0 then -9218868437227405312 else if 0 ≤ L1 then -9218868437227405312 else diZ K (-1) H1 L2
def bHi (K : Nat) (L1 H1 L2 H2 : Int) : Int := if L2 = 0 ∧ H2 = 0 then -9218868437227405312 else if L1 = 0 ∧ H1 = 0 then 0 else if L2 < 0 ∧ 0 < H2 then 9218868437227405312 else if L1 < 0 ∧ 0 < H1 then 9218868437227405312 else if L2 = 0 ∧ 0 ≤ L1 then 9218868437227405312 else if L2 = 0 then diZ K 1 H1 H2 else if 0 ≤ L1 then diZ K 1 L1 L2 else 9218868437227405312
def dLo (K : Nat) (L1 H1 L2 H2 : Int) : Int := if L1 = 9218868437227405312 ∨ L2 = 9218868437227405312 then 9218868437227405312 else if L2 ≤ 0 ∧ 0 ≤ H2 then bLo K L1 H1 L2 H2 else lst (diZ K (-1)) L1 H1 H2 L2
def dHi (K : Nat) (L1 H1 L2 H2 : Int) : Int := if L1 = 9218868437227405312 ∨ L2 = 9218868437227405312 then -9218868437227405312 else if L2 ≤ 0 ∧ 0 ≤ H2 then bHi K L1 H1 L2 H2 else -(lst (diZ K (-1)) (-H1) (-L1) H2 L2)
theorem and2 (p q : Prop) [Decidable p] [Decidable q] (h : p ∧ q) : (decide p && decide q) = true := by simp [h]
theorem nand2 (p q : Prop) [Decidable p] [Decidable q] (h : ¬ (p ∧ q)) : (decide p && decide q) = false := by
  by_cases a : p <;> by_cases b : q <;> simp [a, b]
  exact h ⟨a, b⟩
theorem entire9_ (w : World) : Calls Tryz.prog 10 #[] w fun e w' => e = .returned (.agg #[.float .f64 18442240474082181120, .float .f64 9218868437227405312]) ∧ Kp w w' := by
  refine (Fq.entire6_ w).mono ?_
  exact fun e w' h => ⟨h.1, by first | exact h.2 | (rw [h.2]; exact (Kp.refl _).alloc _)⟩
theorem byN9_ (K : Nat) (hK : K = 1074) (L1 H1 L2 H2 : Int) (d1 : VdZ L1 H1) (d2 : VdZ L2 H2) (n1 : L1 ≠ 9218868437227405312) (n2 : L2 ≠ 9218868437227405312) (hz : L2 ≤ 0 ∧ 0 ≤ H2) (w : World) (hT : TT w) : Calls Tryz.prog 34 #[.agg #[.float .f64 (pw L1), .float .f64 (pw H1)], .agg #[.float .f64 (pw L2), .float .f64 (pw H2)]] w fun e w' => e = .returned (.agg #[.float .f64 (pw (bLo K L1 H1 L2 H2)), .float .f64 (pw (bHi K L1 H1 L2 H2))]) ∧ Kp w w' := by
  have b1 := d1.lo; have b2 := d1.hi; have b3 := d2.lo; have b4 := d2.hi
  unfold VdZ at d1 d2
  unfold bLo bHi
  have tC0 := eq0_pw L2 b3
  have tD0 := eq0_pw H2 b4
  have tA0 := eq0_pw L1 b1
  have tB0 := eq0_pw H1 b2
  have tCl := lt0_pw L2 b3
  have tDg := gt0_pw H2 b4
  have tAl := lt0_pw L1 b1
  have tBg := gt0_pw H1 b2
  have tAg := ge0_pw L1 b1
  by_cases c0 : L2 = 0 ∧ H2 = 0
  · rw [if_pos c0, if_pos c0, pw_I, pw_MI]
    exact byN1_ _ _ _ _ _ _ tC0 tD0 (and2 _ _ c0) w empty9_
  rw [if_neg c0, if_neg c0]
  by_cases c1 : L1 = 0 ∧ H1 = 0
  · rw [if_pos c1, if_pos c1]
    have h := byN2_ (pw L1) (pw H1) (pw L2) (pw H2) _ _ _ _ tC0 tD0 tA0 tB0 (nand2 _ _ c0) (and2 _ _ c1) w
    rw [c1.1, c1.2] at h ⊢
    exact h
  rw [if_neg c1, if_neg c1]
  by_cases c2 : L2 < 0 ∧ 0 < H2
  · rw [if_pos c2, if_pos c2, pw_I, pw_MI]
    exact byN3_ _ _ _ _ _ _ _ _ _ _ tC0 tD0 tA0 tB0 tCl tDg (nand2 _ _ c0) (nand2 _ _ c1) (and2 _ _ c2) w entire9_
  rw [if_neg c2, if_neg c2]
  by_cases c3 : L1 < 0 ∧ 0 < H1
  · rw [if_pos c3, if_pos c3, pw_I, pw_MI]
    exact byN4_ _ _ _ _ _ _ _ _ _ _ _ _ tC0 tD0 tA0 tB0 tCl tDg tAl tBg (nand2 _ _ c0) (nand2 _ _ c1) (nand2 _ _ c2) (and2 _ _ c3) w entire9_
  rw [if_neg c3, if_neg c3]
  by_cases c4 : L2 = 0 ∧ 0 ≤ L1
  · rw [if_pos c4, if_pos c4, pw_I]
    exact byN5_ _ _ _ _ _ _ _ _ _ _ _ _ _ _ tC0 tD0 tA0 tB0 tCl tDg tAl tBg tAg (nand2 _ _ c0) (nand2 _ _ c1) (nand2 _ _ c2) (nand2 _ _ c3) (and2 _ _ c4) w (fun W k => divP_ K hK (-1) L1 H2 (by omega) (by omega) b1 b4 (by omega) (by omega) W (hT.kp k))
  rw [if_neg c4, if_neg c4]
  by_cases c5 : L2 = 0
  · rw [if_pos c5, if_pos c5, pw_MI]
    exact byN6_ _ _ _ _ _ _ _ _ _ _ _ _ _ _ tC0 tD0 tA0 tB0 tCl tDg tAl tBg tAg (nand2 _ _ c0) (nand2 _ _ c1) (nand2 _ _ c2) (nand2 _ _ c3) (nand2 _ _ c4) (decide_eq_true c5) w (fun W k => divP_ K hK 1 H1 H2 (by omega) (by omega) b2 b4 (by omega) (by omega) W (hT.kp k))
  rw [if_neg c5, if_neg c5]
  by_cases c6 : 0 ≤ L1
  · rw [if_pos c6, if_pos c6, pw_MI]
    exact byN7_ _ _ _ _ _ _ _ _ _ _ _ _ _ _ tC0 tD0 tA0 tB0 tCl tDg tAl tBg tAg (nand2 _ _ c0) (nand2 _ _ c1) (nand2 _ _ c2) (nand2 _ _ c3) (nand2 _ _ c4) (decide_eq_false c5) (decide_eq_true c6) w (fun W k => divP_ K hK 1 L1 L2 (by omega) (by omega) b1 b3 (by omega) (by omega) W (hT.kp k))
  rw [if_neg c6, if_neg c6, pw_I]
  exact byN8_ _ _ _ _ _ _ _ _ _ _ _ _ _ _ tC0 tD0 tA0 tB0 tCl tDg tAl tBg tAg (nand2 _ _ c0) (nand2 _ _ c1) (nand2 _ _ c2) (nand2 _ _ c3) (nand2 _ _ c4) (decide_eq_false c5) (decide_eq_false c6) w (fun W k => divP_ K hK (-1) H1 L2 (by omega) (by omega) b2 b3 (by omega) (by omega) W (hT.kp k))
theorem div9_ (K : Nat) (hK : K = 1074) (a b c d : Nat) (L1 H1 L2 H2 : Int) (hx : Rd a b L1 H1) (hy : Rd c d L2 H2) (w : World) (hT : TT w) : Calls Tryz.prog 14 #[.agg #[.float .f64 a, .float .f64 b], .agg #[.float .f64 c, .float .f64 d]] w fun e w' => e = .returned (.agg #[.float .f64 (pw (dLo K L1 H1 L2 H2)), .float .f64 (pw (dHi K L1 H1 L2 H2))]) ∧ Kp w w' := by
  have v1 := void9_ L1 H1 hx.vd
  have v2 := void9_ L2 H2 hy.vd
  unfold dLo dHi
  by_cases c1 : L1 = 9218868437227405312
  · rw [if_pos (Or.inl c1), if_pos (Or.inl c1), pw_I, pw_MI]
    rw [decide_eq_true c1] at v1
    exact div6v1_ a b c d _ _ _ _ hx.call hy.call v1 empty9_ w
  rw [decide_eq_false c1] at v1
  by_cases c2 : L2 = 9218868437227405312
  · rw [if_pos (Or.inr c2), if_pos (Or.inr c2), pw_I, pw_MI]
    rw [decide_eq_true c2] at v2
    exact div6v2_ a b c d _ _ _ _ hx.call hy.call v1 v2 empty9_ w
  rw [decide_eq_false c2] at v2
  have cE : ¬ (L1 = 9218868437227405312 ∨ L2 = 9218868437227405312) := by omega
  rw [if_neg cE, if_neg cE]
  have b1 := hx.vd.lo; have b2 := hx.vd.hi; have b3 := hy.vd.lo; have b4 := hy.vd.hi
  have hh := holdsN_ (pw L2) (pw H2) _ _ (le0_pw L2 b3) (ge0_pw H2 b4)
  by_cases c3 : L2 ≤ 0 ∧ 0 ≤ H2
  · rw [if_pos c3, if_pos c3]
    rw [and2 _ _ c3] at hh
    exact div6b_ a b c d _ _ _ _ hx.call hy.call v1 v2 hh _ _ w (fun W k => byN9_ K hK L1 H1 L2 H2 hx.vd hy.vd c1 c2 c3 W (hT.kp k))
  rw [if_neg c3, if_neg c3]
  rw [nand2 _ _ c3] at hh
  have d1 := hx.vd
  have d2 := hy.vd
  unfold VdZ at d1 d2
  have gb : ∀ x y, BdZ (diZ K (-1) x y) := diZ_bd K (-1)
  have lo : ∀ (x y : Int), BdZ x → BdZ y → y ≠ 0 → ¬ ((x = 9218868437227405312 ∨ x = -9218868437227405312) ∧ (y = 9218868437227405312 ∨ y = -9218868437227405312)) → ∀ W0 : World, TT W0 → ∀ W : World, Kp W0 W → Calls Tryz.prog 35 #[.float .f64 (pw x), .float .f64 (pw y)] W fun e w' => e = .returned (.float .f64 (pw (diZ K (-1) x y))) ∧ Kp W w' := fun x y g1 g2 zy hb W0 t W k => quoP_ K hK x y g1 g2 zy hb W (t.kp k)
  refine div6n_ a b c d _ _ _ _ hx.call hy.call v1 v2 hh _ _ w (fun W k => ?_)
  have hT := hT.kp k
  exact spreadA_ _ _ _ _ _ _ _ _ _ _ W (fun W' k' => lsQ9_ (diZ K (-1)) L1 H1 H2 L2 b1 b2 b4 b3 W' (fun _ _ => lo _ _ b2 b4 (by omega) (by omega) W' (hT.kp k')) (fun _ _ => lo _ _ b1 b3 (by omega) (by omega) W' (hT.kp k')) (fun _ _ _ => lo _ _ b2 b3 (by omega) (by omega) W' (hT.kp k')) (fun _ _ _ => lo _ _ b1 b4 (by omega) (by omega) W' (hT.kp k')) (gb _ _) (gb _ _)) (neg9_ _ _ _ _ (Rd.of hx.vd)) (fun W' k' => lsQ9_ (diZ K (-1)) (-H1) (-L1) H2 L2 (bd_neg _ b2) (bd_neg _ b1) b4 b3 W' (fun _ _ => lo _ _ (bd_neg _ b1) b4 (by omega) (by omega) W' (hT.kp k')) (fun _ _ => lo _ _ (bd_neg _ b2) b3 (by omega) (by omega) W' (hT.kp k')) (fun _ _ _ => lo _ _ (bd_neg _ b1) b3 (by omega) (by omega) W' (hT.kp k')) (fun _ _ _ => lo _ _ (bd_neg _ b2) b4 (by omega) (by omega) W' (hT.kp k')) (gb _ _) (gb _ _)) (minus9_ _ (lst_bd _ gb _ _ _ _))
theorem pw_of (x : Nat) (h : x ≤ 9218868437227405312) : pw (x : Int) = x := by
  unfold pw
  rw [show decide ((x : Int) < 0) = false from decide_eq_false (by omega), show ((x : Int)).natAbs = x from by omega]; rfl
theorem Rd.num (x y : Nat) (hx : x < 9218868437227405312) (hy : y ≤ 9218868437227405312) (h : x ≤ y) : Rd x y x y := by
  have g : VdZ (x : Int) (y : Int) := Or.inr (by omega)
  have r := Rd.of g
  rw [pw_of x (by omega), pw_of y hy] at r
  exact r
theorem recip9_ (K : Nat) (hK : K = 1074) (a b : Nat) (L H : Int) (hx : Rd a b L H) (w : World) (hT : TT w) : Calls Tryz.prog 15 #[.agg #[.float .f64 a, .float .f64 b]] w fun e w' => e = .returned (.agg #[.float .f64 (pw (dLo K 4607182418800017408 4607182418800017408 L H)), .float .f64 (pw (dHi K 4607182418800017408 4607182418800017408 L H))]) ∧ Kp w w' :=
  recip6_ a b _ _ w (fun W k => div9_ K hK 4607182418800017408 4607182418800017408 a b ((4607182418800017408 : Nat) : Int) ((4607182418800017408 : Nat) : Int) L H (Rd.num 4607182418800017408 4607182418800017408 (by decide) (by decide) (by decide)) hx W (hT.kp k))
set_option linter.unusedVariables false
set_option maxRecDepth 20000 in
set_option maxHeartbeats 2000000 in
theorem leastSumA_ (a b c d E Z : Nat) (w : World) (hl : ∀ W : World, Kp w W → W.cell? ⟨w.heap.size + 2, 0, none⟩ = some (.float .f64 E) → Calls Tryz.prog 54 #[.agg #[.float .f64 a, .float .f64 b], .agg #[.float .f64 c, .float .f64 d], .func (.func 66) #[] #[.pointer (some ⟨w.heap.size + 2, 0, none⟩)]] W fun e w' => e = .returned (.float .f64 Z) ∧ Kp W w') : Calls Tryz.prog 39 #[.agg #[.float .f64 a, .float .f64 b], .agg #[.float .f64 c, .float .f64 d], .float .f64 E] w fun e w' => e = .returned (.float .f64 Z) ∧ Kp w w' := by
  have hmf : ∀ (fn : Fn) (first cap : Array Value) (w : World), (Instr.makeFunc fn first cap).run Tryz.prog w = .ok (.func fn first cap) w := fun _ _ _ _ => rfl
  go_enter Tryz.func39, Tryz.ntmps39
  go_wp2_with (first | (go_at_call 54; refine (hl _ ((((Kp.refl w).alloc _).alloc _).alloc _) (by simp [go_sem])).mono ?_; rintro e w1 ⟨rfl, g1⟩))
  exact bodyPost_ret (v := .float .f64 Z) (by simp [results, Tryz.results39, go_sem]) rfl ⟨rfl, (Kp.trans ((((Kp.refl w).alloc _).alloc _).alloc _) g1)⟩
set_option linter.unusedVariables false

def H8 (w : World) (B : Nat) (a b c d e f g h : Value) : Prop := H6 w B a b c d e f ∧ Fq.H2 w (B + 3) g h
theorem H8.keep {W w : World} {B : Nat} {a b c d e f g h : Value} (x : H8 W B a b c d e f g h) (y : Kp W w) : H8 w B a b c d e f g h := ⟨H6.keep x.1 y, Fq.H2.keep x.2 y⟩
theorem H8.new (w : World) (a b c d e f g h : Value) (s t u v : TypeId) : H8 ((((w.alloc (.cells #[a, b] s)).alloc (.cells #[c, d] t)).alloc (.cells #[e, f] u)).alloc (.cells #[g, h] v)) w.heap.size a b c d e f g h := by
  refine ⟨⟨?_, ?_, ?_⟩, ?_⟩ <;> (unfold Fq.H2; simp [go_sem])
theorem H8.put {w : World} {B : Nat} {a b c d e f g h : Value} (x : H8 w B a b c d e f g h) (a' b' c' d' e' f' : Value) : H8 ((((((w.setCell ⟨B, 0, none⟩ a').setCell ⟨B, 1, none⟩ b').setCell ⟨B + 1, 0, none⟩ c').setCell ⟨B + 1, 1, none⟩ d').setCell ⟨B + 2, 0, none⟩ e').setCell ⟨B + 2, 1, none⟩ f') B a' b' c' d' e' f' g h := by
  refine ⟨⟨?_, ?_, ?_⟩, ?_⟩
  · exact Fq.H2.far (Fq.H2.far (Fq.H2.put x.1.1 a' b') (by omega) c' d') (by omega) e' f'
  · exact Fq.H2.far (Fq.H2.put (Fq.H2.far x.1.2.1 (by omega) a' b') c' d') (by omega) e' f'
  · exact Fq.H2.put (Fq.H2.far (Fq.H2.far x.1.2.2 (by omega) a' b') (by omega) c' d') e' f'
  · exact Fq.H2.far (Fq.H2.far (Fq.H2.far x.2 (by omega) a' b') (by omega) c' d') (by omega) e' f'
set_option maxRecDepth 20000 in
set_option maxHeartbeats 4000000 in
theorem fma6_ (a b c d e5 f5 L1 H1 L2 H2 L3 H3 : Nat) (hx : ∀ w : World, Calls Tryz.prog 28 #[.agg #[.float .f64 a, .float .f64 b]] w fun e w' => e = .returned (.agg #[.float .f64 L1, .float .f64 H1]) ∧ Kp w w') (hy : ∀ w : World, Calls Tryz.prog 28 #[.agg #[.float .f64 c, .float .f64 d]] w fun e w' => e = .returned (.agg #[.float .f64 L2, .float .f64 H2]) ∧ Kp w w') (hz : ∀ w : World, Calls Tryz.prog 28 #[.agg #[.float .f64 e5, .float .f64 f5]] w fun e w' => e = .returned (.agg #[.float .f64 L3, .float .f64 H3]) ∧ Kp w w') (V1 V2 V3 : Bool) (hv1 : ∀ w : World, Calls Tryz.prog 29 #[.agg #[.float .f64 L1, .float .f64 H1]] w fun e w' => e = .returned (.bool V1) ∧ Kp w w') (hv2 : ∀ w : World, Calls Tryz.prog 29 #[.agg #[.float .f64 L2, .float .f64 H2]] w fun e w' => e = .returned (.bool V2) ∧ Kp w w') (hv3 : ∀ w : World, Calls Tryz.prog 29 #[.agg #[.float .f64 L3, .float .f64 H3]] w fun e w' => e = .returned (.bool V3) ∧ Kp w w') (hE : ∀ w : World, Calls Tryz.prog 9 #[] w fun e w' => e = .returned (.agg #[.float .f64 9218868437227405312, .float .f64 18442240474082181120]) ∧ Kp w w') (NL NH MH Z1 Z2 Z3 : Nat) (w : World) (hq : (V1 || V2 || V3) = false → (∀ W : World, Kp w W → Calls Tryz.prog 39 #[.agg #[.float .f64 L1, .float .f64 H1], .agg #[.float .f64 L2, .float .f64 H2], .float .f64 L3] W fun e w' => e = .returned (.float .f64 Z1) ∧ Kp W w') ∧ (∀ w : World, Calls Tryz.prog 24 #[.agg #[.float .f64 L1, .float .f64 H1]] w fun e w' => e = .returned (.agg #[.float .f64 NL, .float .f64 NH]) ∧ Kp w w') ∧ (∀ w : World, Calls Tryz.prog 40 #[.float .f64 H3] w fun e w' => e = .returned (.float .f64 MH) ∧ w' = w) ∧ (∀ W : World, Kp w W → Calls Tryz.prog 39 #[.agg #[.float .f64 NL, .float .f64 NH], .agg #[.float .f64 L2, .float .f64 H2], .float .f64 MH] W fun e w' => e = .returned (.float .f64 Z2) ∧ Kp W w') ∧ (∀ w : World, Calls Tryz.prog 40 #[.float .f64 Z2] w fun e w' => e = .returned (.float .f64 Z3) ∧ w' = w)) : Calls Tryz.prog 18 #[.agg #[.float .f64 a, .float .f64 b], .agg #[.float .f64 c, .float .f64 d], .agg #[.float .f64 e5, .float .f64 f5]] w fun e w' => e = .returned (if V1 || V2 || V3 then .agg #[.float .f64 9218868437227405312, .float .f64 18442240474082181120] else .agg #[.float .f64 Z1, .float .f64 Z3]) ∧ Kp w w' := by
  go_enter Tryz.func18, Tryz.ntmps18
  go_upto_region 1 with fail
  go_cut [] (fun wx => H8 wx w.heap.size (.float .f64 L1) (.float .f64 H1) (.float .f64 L2) (.float .f64 H2) (.float .f64 L3) (.float .f64 H3) (.float .f64 0) (.float .f64 0) ∧ Kp w wx)
  case first =>
    go_region_with (first | (go_at_call_of 28 (Value.agg #[.float .f64 a, .float .f64 b]); refine (hx _).mono ?_; rintro e wx ⟨rfl, gx⟩; have kx : Kp w wx := Kp.trans (((((Kp.refl w).alloc _).alloc _).alloc _).alloc _).drew gx; have sx := H8.keep (H8.new w (.float .f64 a) (.float .f64 b) (.float .f64 c) (.float .f64 d) (.float .f64 e5) (.float .f64 f5) (.float .f64 0) (.float .f64 0) 25 25 25 25) (Kp.trans (Kp.drew (Kp.refl _)) gx); obtain ⟨⟨⟨p0, p1, p2, p3⟩, ⟨p4, p5, p6, p7⟩, ⟨p8, p9, pa, pb⟩⟩, ⟨pc, pd, pe, pf⟩⟩ := id sx) | (go_at_call_of 28 (Value.agg #[.float .f64 c, .float .f64 d]); refine (hy _).mono ?_; rintro e wy ⟨rfl, gy⟩; have ky := Kp.trans kx gy; have sy := H8.keep sx gy; obtain ⟨⟨⟨p0, p1, p2, p3⟩, ⟨p4, p5, p6, p7⟩, ⟨p8, p9, pa, pb⟩⟩, ⟨pc, pd, pe, pf⟩⟩ := id sy) | (go_at_call_of 28 (Value.agg #[.float .f64 e5, .float .f64 f5]); refine (hz _).mono ?_; rintro e wz ⟨rfl, gz⟩; have kz := Kp.trans ky gz; have sz := H8.keep sy gz; obtain ⟨⟨⟨p0, p1, p2, p3⟩, ⟨p4, p5, p6, p7⟩, ⟨p8, p9, pa, pb⟩⟩, ⟨pc, pd, pe, pf⟩⟩ := id sz))
    all_goals (
      go_wp2_with fail
      go_meet
      exact ⟨H8.put sz (.float .f64 L1) (.float .f64 H1) (.float .f64 L2) (.float .f64 H2) (.float .f64 L3) (.float .f64 H3), ((((((kz.setCell (Nat.le_refl _) _).setCell (Nat.le_refl _) _).setCell (by simp <;> omega) _).setCell (by simp <;> omega) _).setCell (by simp <;> omega) _).setCell (by simp <;> omega) _)⟩)
  case rest =>
  obtain ⟨sw, kw⟩ := hcut
  obtain ⟨⟨⟨p0, p1, p2, p3⟩, ⟨p4, p5, p6, p7⟩, ⟨p8, p9, pa, pb⟩⟩, ⟨pc, pd, pe, pf⟩⟩ := id sw
  cases V1
  · cases V2
    · cases V3
      · obtain ⟨h1, hN, hm1, h2, hm2⟩ := hq rfl
        go_upto_region 4 with (first | (go_at_call_of 29 (Value.agg #[.float .f64 L1, .float .f64 H1]); refine (hv1 _).mono ?_; rintro e wv ⟨rfl, gv⟩; replace kw := Kp.trans kw gv; replace sw := H8.keep sw gv; clear gv; obtain ⟨⟨⟨p0, p1, p2, p3⟩, ⟨p4, p5, p6, p7⟩, ⟨p8, p9, pa, pb⟩⟩, ⟨pc, pd, pe, pf⟩⟩ := id sw) | (go_at_call_of 29 (Value.agg #[.float .f64 L2, .float .f64 H2]); refine (hv2 _).mono ?_; rintro e wv ⟨rfl, gv⟩; replace kw := Kp.trans kw gv; replace sw := H8.keep sw gv; clear gv; obtain ⟨⟨⟨p0, p1, p2, p3⟩, ⟨p4, p5, p6, p7⟩, ⟨p8, p9, pa, pb⟩⟩, ⟨pc, pd, pe, pf⟩⟩ := id sw) | (go_at_call_of 29 (Value.agg #[.float .f64 L3, .float .f64 H3]); refine (hv3 _).mono ?_; rintro e wv ⟨rfl, gv⟩; replace kw := Kp.trans kw gv; replace sw := H8.keep sw gv; clear gv; obtain ⟨⟨⟨p0, p1, p2, p3⟩, ⟨p4, p5, p6, p7⟩, ⟨p8, p9, pa, pb⟩⟩, ⟨pc, pd, pe, pf⟩⟩ := id sw))
        clear p0 p1 p2 p3 p4 p5 p6 p7 p8 p9 pa pb pc pd pe pf
        generalize wv = W at kw sw ⊢
        have xw0 := sw.1.1.1
        have dw0 : W.drew.cell? ⟨w.heap.size, 0, none⟩ = some (.float .f64 L1) := xw0
        have xw1 := sw.1.1.2.1
        have dw1 : W.drew.cell? ⟨w.heap.size, 1, none⟩ = some (.float .f64 H1) := xw1
        have xw2 := sw.1.2.1.1
        have dw2 : W.drew.cell? ⟨w.heap.size + 1, 0, none⟩ = some (.float .f64 L2) := xw2
        have xw3 := sw.1.2.1.2.1
        have dw3 : W.drew.cell? ⟨w.heap.size + 1, 1, none⟩ = some (.float .f64 H2) := xw3
        have xw4 := sw.1.2.2.1
        have dw4 : W.drew.cell? ⟨w.heap.size + 2, 0, none⟩ = some (.float .f64 L3) := xw4
        have xw5 := sw.1.2.2.2.1
        have dw5 : W.drew.cell? ⟨w.heap.size + 2, 1, none⟩ = some (.float .f64 H3) := xw5
        have r0 := sw.2.1
        have r1 := sw.2.2.1
        have rz0 := sw.2.2.2.1
        have rz1 := sw.2.2.2.2
        have hn1 : w.heap.size + 3 ≠ w.heap.size := by omega
        have hn2 : w.heap.size + 3 ≠ w.heap.size + 1 := by omega
        have hn3 : w.heap.size + 3 ≠ w.heap.size + 2 := by omega
        go_region_held3 (fun w' => w'.cell? ⟨w.heap.size, 0, none⟩ = some (.float .f64 L1) ∧ w'.cell? ⟨w.heap.size, 1, none⟩ = some (.float .f64 H1) ∧ w'.cell? ⟨w.heap.size + 1, 0, none⟩ = some (.float .f64 L2) ∧ w'.cell? ⟨w.heap.size + 1, 1, none⟩ = some (.float .f64 H2) ∧ w'.cell? ⟨w.heap.size + 2, 0, none⟩ = some (.float .f64 L3) ∧ w'.cell? ⟨w.heap.size + 2, 1, none⟩ = some (.float .f64 H3)) (first | (with_reducible exact ⟨xw0, xw1, xw2, xw3, xw4, xw5⟩) | (with_reducible exact ⟨dw0, dw1, dw2, dw3, dw4, dw5⟩) | (with_reducible exact ⟨aw0, aw1, aw2, aw3, aw4, aw5⟩) | (with_reducible exact ⟨nw0, nw1, nw2, nw3, nw4, nw5⟩) | (with_reducible exact ⟨hw0, hw1, hw2, hw3, hw4, hw5⟩) | (exact ⟨((World.cell?_setCell_far _ _ _ _ hn1).trans ((World.cell?_setCell_far _ _ _ _ hn1).trans hw0)), ((World.cell?_setCell_far _ _ _ _ hn1).trans ((World.cell?_setCell_far _ _ _ _ hn1).trans hw1)), ((World.cell?_setCell_far _ _ _ _ hn2).trans ((World.cell?_setCell_far _ _ _ _ hn2).trans hw2)), ((World.cell?_setCell_far _ _ _ _ hn2).trans ((World.cell?_setCell_far _ _ _ _ hn2).trans hw3)), ((World.cell?_setCell_far _ _ _ _ hn3).trans ((World.cell?_setCell_far _ _ _ _ hn3).trans hw4)), ((World.cell?_setCell_far _ _ _ _ hn3).trans ((World.cell?_setCell_far _ _ _ _ hn3).trans hw5))⟩)) (first | (go_at_call_of 39 (Value.agg #[.float .f64 L1, .float .f64 H1]); refine (h1 _ ?q0).mono ?_; (case q0 => first | exact kw.trans (Kp.drew (Kp.refl _)) | exact kw); rintro e wl ⟨rfl, gl⟩; have kl : Kp W wl := (by first | exact Kp.trans (Kp.drew (Kp.refl _)) gl | exact gl); have aw0 := kkeep kl xw0; have aw1 := kkeep kl xw1; have aw2 := kkeep kl xw2; have aw3 := kkeep kl xw3; have aw4 := kkeep kl xw4; have aw5 := kkeep kl xw5) | (go_at_call 24; refine (hN _).mono ?_; rintro e wn ⟨rfl, gn⟩; have kn : Kp W wn := Kp.trans kl gn; have nw0 := kkeep kn xw0; have nw1 := kkeep kn xw1; have nw2 := kkeep kn xw2; have nw3 := kkeep kn xw3; have nw4 := kkeep kn xw4; have nw5 := kkeep kn xw5) | (go_at_call_of 40 (Value.float .f64 H3); refine (hm1 _).mono ?_; rintro e wm ⟨rfl, gm⟩; obtain rfl := gm.symm; clear gm) | (go_at_call_of 39 (Value.agg #[.float .f64 NL, .float .f64 NH]); refine (h2 _ ?q0).mono ?_; (case q0 => exact kw.trans kn); rintro e wh ⟨rfl, gh⟩; have kh : Kp W wh := Kp.trans kn gh; have hw0 := kkeep kh xw0; have hw1 := kkeep kh xw1; have hw2 := kkeep kh xw2; have hw3 := kkeep kh xw3; have hw4 := kkeep kh xw4; have hw5 := kkeep kh xw5; have R0 := kkeep kh r0; have Rz0 : wh.frozen? ⟨w.heap.size + 3, 0, none⟩ = false := (kfro kh (cell_lt r0)).trans rz0; have R1 := kkeep kh r1; have Rz1 : wh.frozen? ⟨w.heap.size + 3, 1, none⟩ = false := (kfro kh (cell_lt r1)).trans rz1) | (go_at_call_of 40 (Value.float .f64 Z2); refine (hm2 _).mono ?_; rintro e wm ⟨rfl, gm⟩; obtain rfl := gm.symm; clear gm))
        go_wp2
        exact bodyPost_ret (v := .agg #[.float .f64 Z1, .float .f64 Z3]) (by simp [results, Tryz.results18, go_sem, R0, R1]) rfl ⟨rfl, (((Kp.trans kw kh)).setCell (by simp <;> omega) _).setCell (by simp <;> omega) _⟩
      · go_wp2_with (first | (go_at_call_of 29 (Value.agg #[.float .f64 L1, .float .f64 H1]); refine (hv1 _).mono ?_; rintro e wv ⟨rfl, gv⟩; replace kw := Kp.trans kw gv; replace sw := H8.keep sw gv; clear gv; obtain ⟨⟨⟨p0, p1, p2, p3⟩, ⟨p4, p5, p6, p7⟩, ⟨p8, p9, pa, pb⟩⟩, ⟨pc, pd, pe, pf⟩⟩ := id sw) | (go_at_call_of 29 (Value.agg #[.float .f64 L2, .float .f64 H2]); refine (hv2 _).mono ?_; rintro e wv ⟨rfl, gv⟩; replace kw := Kp.trans kw gv; replace sw := H8.keep sw gv; clear gv; obtain ⟨⟨⟨p0, p1, p2, p3⟩, ⟨p4, p5, p6, p7⟩, ⟨p8, p9, pa, pb⟩⟩, ⟨pc, pd, pe, pf⟩⟩ := id sw) | (go_at_call_of 29 (Value.agg #[.float .f64 L3, .float .f64 H3]); refine (hv3 _).mono ?_; rintro e wv ⟨rfl, gv⟩; replace kw := Kp.trans kw gv; replace sw := H8.keep sw gv; clear gv; obtain ⟨⟨⟨p0, p1, p2, p3⟩, ⟨p4, p5, p6, p7⟩, ⟨p8, p9, pa, pb⟩⟩, ⟨pc, pd, pe, pf⟩⟩ := id sw) | (go_at_call 9; refine (hE _).mono ?_; rintro e we ⟨rfl, ge⟩; replace kw := Kp.trans kw ge; replace sw := H8.keep sw ge; clear ge; obtain ⟨⟨⟨p0, p1, p2, p3⟩, ⟨p4, p5, p6, p7⟩, ⟨p8, p9, pa, pb⟩⟩, ⟨pc, pd, pe, pf⟩⟩ := id sw))
        exact bodyPost_ret (v := .agg #[.float .f64 9218868437227405312, .float .f64 18442240474082181120]) (by simp [results, Tryz.results18, go_sem, pc, pd]) rfl ⟨rfl, (kw.setCell (by simp <;> omega) _).setCell (by simp <;> omega) _⟩
    · go_wp2_with (first | (go_at_call_of 29 (Value.agg #[.float .f64 L1, .float .f64 H1]); refine (hv1 _).mono ?_; rintro e wv ⟨rfl, gv⟩; replace kw := Kp.trans kw gv; replace sw := H8.keep sw gv; clear gv; obtain ⟨⟨⟨p0, p1, p2, p3⟩, ⟨p4, p5, p6, p7⟩, ⟨p8, p9, pa, pb⟩⟩, ⟨pc, pd, pe, pf⟩⟩ := id sw) | (go_at_call_of 29 (Value.agg #[.float .f64 L2, .float .f64 H2]); refine (hv2 _).mono ?_; rintro e wv ⟨rfl, gv⟩; replace kw := Kp.trans kw gv; replace sw := H8.keep sw gv; clear gv; obtain ⟨⟨⟨p0, p1, p2, p3⟩, ⟨p4, p5, p6, p7⟩, ⟨p8, p9, pa, pb⟩⟩, ⟨pc, pd, pe, pf⟩⟩ := id sw) | (go_at_call 9; refine (hE _).mono ?_; rintro e we ⟨rfl, ge⟩; replace kw := Kp.trans kw ge; replace sw := H8.keep sw ge; clear ge; obtain ⟨⟨⟨p0, p1, p2, p3⟩, ⟨p4, p5, p6, p7⟩, ⟨p8, p9, pa, pb⟩⟩, ⟨pc, pd, pe, pf⟩⟩ := id sw))
      exact bodyPost_ret (v := .agg #[.float .f64 9218868437227405312, .float .f64 18442240474082181120]) (by simp [results, Tryz.results18, go_sem, pc, pd]) rfl ⟨rfl, (kw.setCell (by simp <;> omega) _).setCell (by simp <;> omega) _⟩
  · go_wp2_with (first | (go_at_call_of 29 (Value.agg #[.float .f64 L1, .float .f64 H1]); refine (hv1 _).mono ?_; rintro e wv ⟨rfl, gv⟩; replace kw := Kp.trans kw gv; replace sw := H8.keep sw gv; clear gv; obtain ⟨⟨⟨p0, p1, p2, p3⟩, ⟨p4, p5, p6, p7⟩, ⟨p8, p9, pa, pb⟩⟩, ⟨pc, pd, pe, pf⟩⟩ := id sw) | (go_at_call 9; refine (hE _).mono ?_; rintro e we ⟨rfl, ge⟩; replace kw := Kp.trans kw ge; replace sw := H8.keep sw ge; clear ge; obtain ⟨⟨⟨p0, p1, p2, p3⟩, ⟨p4, p5, p6, p7⟩, ⟨p8, p9, pa, pb⟩⟩, ⟨pc, pd, pe, pf⟩⟩ := id sw))
    exact bodyPost_ret (v := .agg #[.float .f64 9218868437227405312, .float .f64 18442240474082181120]) (by simp [results, Tryz.results18, go_sem, pc, pd]) rfl ⟨rfl, (kw.setCell (by simp <;> omega) _).setCell (by simp <;> omega) _⟩
end Go.Proofs.YtkheefoabcibkaaGreatDoor
