import Derived.Test.YtinohggonicjhaaGreatDoorKIMt
import Derived.Test.YtinohggonicjhaaGreatDoorKSRa
namespace Go.Proofs.YtinohggonicjhaaGreatDoor
open Go.RowKit
set_option linter.unusedVariables false

def EB (K base : Nat) (B : Int × Int) (W : World) (ai : Int) (an : Bool) (ap : Option Addr) (al ac : Nat) (aq : Option Addr) (ak ad : Nat) : Prop := ai = B.1 ∧ (B.1 = 0 → XP base W an ap al ac aq ak ad B.2 (2 ^ K * 2 ^ K) 7000)
theorem cmJ_I (V W : Int) : cmI V W = cmJ V W := by unfold cmI cmJ; rfl
theorem cmpB_ (K base : Nat) (Ba Bb : Int × Int) (W : World) (ai : Int) (an : Bool) (ap : Option Addr) (al ac : Nat) (aq : Option Addr) (ak ad : Nat) (bi : Int) (bn : Bool) (bp : Option Addr) (bl bc : Nat) (bq : Option Addr) (bk bd : Nat) (h1 : EB K base Ba W ai an ap al ac aq ak ad) (h2 : EB K base Bb W bi bn bp bl bc bq bk bd) : Calls Tryz.prog 80 #[.agg #[.int .i64 ai, .bool an, .slice ap al ac, .slice aq ak ad], .agg #[.int .i64 bi, .bool bn, .slice bp bl bc, .slice bq bk bd]] W fun e w' => e = .returned (.int .i64 (cB Ba.1 Ba.2 Bb.1 Bb.2)) ∧ Kp W w' := by
  obtain ⟨e1, x1⟩ := h1
  obtain ⟨e2, x2⟩ := h2
  subst e1
  subst e2
  unfold cB
  rcases Int.lt_trichotomy Ba.1 Bb.1 with c | c | c
  · rw [if_pos c]
    exact endL_ _ _ an ap al ac aq ak ad bn bp bl bc bq bk bd (by simp; omega) c W
  · rw [if_neg (by omega), if_neg (by omega)]
    by_cases z : Ba.1 = 0
    · rw [if_neg (by omega)]
      have y1 := x1 z
      have y2 := x2 (by omega)
      have pk : (0 : Int) < ((2 ^ K * 2 ^ K : Nat) : Int) := by
        have := Nat.mul_pos (Nat.two_pow_pos K) (Nat.two_pow_pos K); omega
      have h := endZ_ (cmJ Ba.2 Bb.2) an ap al ac aq ak ad bn bp bl bc bq bk bd W (fun W' g => by
        have h := xcmp_ base base Ba.2 Bb.2 (2 ^ K * 2 ^ K) (2 ^ K * 2 ^ K) 7000 7000 (by omega) (by omega) an ap al ac aq ak ad bn bp bl bc bq bk bd W' (y1.kp g) (y2.kp g)
        rw [cmI_scale _ _ _ pk, cmJ_I] at h
        exact h)
      rw [show Bb.1 = 0 from by omega, z]
      exact h
    · rw [if_pos z, ← c]
      exact endE_ _ an ap al ac aq ak ad bn bp bl bc bq bk bd (by simp; omega) W
  · rw [if_neg (by omega), if_pos c]
    exact endG_ _ _ an ap al ac aq ak ad bn bp bl bc bq bk bd (by simp; omega) (by omega) W
theorem EB.kp {K base : Nat} {B : Int × Int} {W W' : World} {ai : Int} {an : Bool} {ap : Option Addr} {al ac : Nat} {aq : Option Addr} {ak ad : Nat} (h : EB K base B W ai an ap al ac aq ak ad) (g : Kp W W') : EB K base B W' ai an ap al ac aq ak ad := ⟨h.1, fun z => (h.2 z).kp g⟩
theorem lesserV_ (K base : Nat) (Ba Bb : Int × Int) (W : World) (ai : Int) (an : Bool) (ap : Option Addr) (al ac : Nat) (aq : Option Addr) (ak ad : Nat) (bi : Int) (bn : Bool) (bp : Option Addr) (bl bc : Nat) (bq : Option Addr) (bk bd : Nat) (h1 : EB K base Ba W ai an ap al ac aq ak ad) (h2 : EB K base Bb W bi bn bp bl bc bq bk bd) : Calls Tryz.prog 54 #[.agg #[.int .i64 ai, .bool an, .slice ap al ac, .slice aq ak ad], .agg #[.int .i64 bi, .bool bn, .slice bp bl bc, .slice bq bk bd]] W fun e w' => ∃ ci cn cp cl cc cq ck cd, e = .returned (.agg #[.int .i64 ci, .bool cn, .slice cp cl cc, .slice cq ck cd]) ∧ EB K base (lB Ba Bb) w' ci cn cp cl cc cq ck cd ∧ Kp W w' := by
  have hc := fun (W' : World) (g : Kp W W') => cmpB_ K base Bb Ba W' bi bn bp bl bc bq bk bd ai an ap al ac aq ak ad (h2.kp g) (h1.kp g)
  unfold lB
  by_cases c : cB Bb.1 Bb.2 Ba.1 Ba.2 < 0
  · rw [if_pos c]
    refine (lesserB_ ai bi _ an ap al ac aq ak ad bn bp bl bc bq bk bd c W hc).mono ?_
    rintro e w' ⟨rfl, g⟩
    exact ⟨bi, bn, bp, bl, bc, bq, bk, bd, rfl, h2.kp g, g⟩
  · rw [if_neg c]
    refine (lesserA_ ai bi _ an ap al ac aq ak ad bn bp bl bc bq bk bd c W hc).mono ?_
    rintro e w' ⟨rfl, g⟩
    exact ⟨ai, an, ap, al, ac, aq, ak, ad, rfl, h1.kp g, g⟩
theorem greaterV_ (K base : Nat) (Ba Bb : Int × Int) (W : World) (ai : Int) (an : Bool) (ap : Option Addr) (al ac : Nat) (aq : Option Addr) (ak ad : Nat) (bi : Int) (bn : Bool) (bp : Option Addr) (bl bc : Nat) (bq : Option Addr) (bk bd : Nat) (h1 : EB K base Ba W ai an ap al ac aq ak ad) (h2 : EB K base Bb W bi bn bp bl bc bq bk bd) : Calls Tryz.prog 55 #[.agg #[.int .i64 ai, .bool an, .slice ap al ac, .slice aq ak ad], .agg #[.int .i64 bi, .bool bn, .slice bp bl bc, .slice bq bk bd]] W fun e w' => ∃ ci cn cp cl cc cq ck cd, e = .returned (.agg #[.int .i64 ci, .bool cn, .slice cp cl cc, .slice cq ck cd]) ∧ EB K base (gB Ba Bb) w' ci cn cp cl cc cq ck cd ∧ Kp W w' := by
  have hc := fun (W' : World) (g : Kp W W') => cmpB_ K base Bb Ba W' bi bn bp bl bc bq bk bd ai an ap al ac aq ak ad (h2.kp g) (h1.kp g)
  unfold gB
  by_cases c : 0 < cB Bb.1 Bb.2 Ba.1 Ba.2
  · rw [if_pos c]
    refine (greaterB_ ai bi _ an ap al ac aq ak ad bn bp bl bc bq bk bd c W hc).mono ?_
    rintro e w' ⟨rfl, g⟩
    exact ⟨bi, bn, bp, bl, bc, bq, bk, bd, rfl, h2.kp g, g⟩
  · rw [if_neg c]
    refine (greaterA_ ai bi _ an ap al ac aq ak ad bn bp bl bc bq bk bd c W hc).mono ?_
    rintro e w' ⟨rfl, g⟩
    exact ⟨ai, an, ap, al, ac, aq, ak, ad, rfl, h1.kp g, g⟩
def tb (p0 p1 p2 p3 : Int × Int) : Nat → Int × Int
  | 0 => p0 | 1 => p1 | 2 => p2 | 3 => p3 | 4 => lB p0 p1 | 5 => lB p2 p3 | 6 => lB (lB p0 p1) (lB p2 p3) | 7 => gB p0 p1 | 8 => gB p2 p3 | _ => gB (gB p0 p1) (gB p2 p3)
theorem timesE_ (K : Nat) (hK : K = 1074) (nA nB nC nD : Bool) (mA mB mC mD : Nat) (hA : mA ≤ 9218868437227405312) (hB : mB ≤ 9218868437227405312) (hC : mC ≤ 9218868437227405312) (hD : mD ≤ 9218868437227405312) (An : Bool) (Ap : Option Addr) (Al Ac : Nat) (Aq : Option Addr) (Ak Ad : Nat) (Bn : Bool) (Bp : Option Addr) (Bl Bc : Nat) (Bq : Option Addr) (Bk Bd : Nat) (Cn : Bool) (Cp : Option Addr) (Cl Cc : Nat) (Cq : Option Addr) (Ck Cd : Nat) (Dn : Bool) (Dp : Option Addr) (Dl Dc : Nat) (Dq : Option Addr) (Dk Dd : Nat) (BA BB BC BD : Nat) (w : World) (hAw : RP BA w An Ap Al Ac Aq Ak Ad (fN nA mA) (fM mA)) (hBw : RP BB w Bn Bp Bl Bc Bq Bk Bd (fN nB mB) (fM mB)) (hCw : RP BC w Cn Cp Cl Cc Cq Ck Cd (fN nC mC) (fM mC)) (hDw : RP BD w Dn Dp Dl Dc Dq Dk Dd (fN nD mD) (fM mD)) :
    Calls Tryz.prog 31 #[.agg #[.bool false, .int .i64 (infS nA mA), .bool An, .slice Ap Al Ac, .slice Aq Ak Ad, .int .i64 (infS nB mB), .bool Bn, .slice Bp Bl Bc, .slice Bq Bk Bd], .agg #[.bool false, .int .i64 (infS nC mC), .bool Cn, .slice Cp Cl Cc, .slice Cq Ck Cd, .int .i64 (infS nD mD), .bool Dn, .slice Dp Dl Dc, .slice Dq Dk Dd]] w fun e w' => ∃ Gi Gn Gp Gl Gc Gq Gk Gd Oi On Op Ol Oc Oq Ok Od, e = .returned (.agg #[.bool false, .int .i64 Gi, .bool Gn, .slice Gp Gl Gc, .slice Gq Gk Gd, .int .i64 Oi, .bool On, .slice Op Ol Oc, .slice Oq Ok Od]) ∧ EB K (w.heap.size + 3) (lB (lB (pi9 (Fq.plz nA mA) (Fq.plz nC mC), pV9 (Fq.plz nA mA) (Fq.plz nC mC)) (pi9 (Fq.plz nA mA) (Fq.plz nD mD), pV9 (Fq.plz nA mA) (Fq.plz nD mD))) (lB (pi9 (Fq.plz nB mB) (Fq.plz nC mC), pV9 (Fq.plz nB mB) (Fq.plz nC mC)) (pi9 (Fq.plz nB mB) (Fq.plz nD mD), pV9 (Fq.plz nB mB) (Fq.plz nD mD)))) w' Gi Gn Gp Gl Gc Gq Gk Gd ∧ EB K (w.heap.size + 3) (gB (gB (pi9 (Fq.plz nA mA) (Fq.plz nC mC), pV9 (Fq.plz nA mA) (Fq.plz nC mC)) (pi9 (Fq.plz nA mA) (Fq.plz nD mD), pV9 (Fq.plz nA mA) (Fq.plz nD mD))) (gB (pi9 (Fq.plz nB mB) (Fq.plz nC mC), pV9 (Fq.plz nB mB) (Fq.plz nC mC)) (pi9 (Fq.plz nB mB) (Fq.plz nD mD), pV9 (Fq.plz nB mB) (Fq.plz nD mD)))) w' Oi On Op Ol Oc Oq Ok Od ∧ Kp w w' := by
  have pp : ∀ (W : World), Kp w W → w.heap.size + 3 ≤ W.heap.size → ∀ (n n' : Bool) (m m' : Nat) (hm : m ≤ 9218868437227405312) (hm' : m' ≤ 9218868437227405312) (an : Bool) (ap : Option Addr) (al ac : Nat) (aq : Option Addr) (ak ad : Nat) (bn : Bool) (bp : Option Addr) (bl bc : Nat) (bq : Option Addr) (bk bd : Nat) (B1 B2 : Nat), RP B1 W an ap al ac aq ak ad (fN n m) (fM m) → RP B2 W bn bp bl bc bq bk bd (fN n' m') (fM m') → Calls Tryz.prog 53 #[.agg #[.int .i64 (infS n m), .bool an, .slice ap al ac, .slice aq ak ad], .agg #[.int .i64 (infS n' m'), .bool bn, .slice bp bl bc, .slice bq bk bd]] W fun e w' => ∃ pi pn pp pl pc pq pk pd, e = .returned (.agg #[.int .i64 pi, .bool pn, .slice pp pl pc, .slice pq pk pd]) ∧ EB K (w.heap.size + 3) (pi9 (Fq.plz n m) (Fq.plz n' m'), pV9 (Fq.plz n m) (Fq.plz n' m')) w' pi pn pp pl pc pq pk pd ∧ Kp W w' := by
    intro W g hs n n' m m' hm hm' an ap al ac aq ak ad bn bp bl bc bq bk bd B1 B2 r1 r2
    refine (prodE_ K hK n n' m m' hm hm' an ap al ac aq ak ad bn bp bl bc bq bk bd B1 B2 W r1 r2).mono ?_
    rintro e w' ⟨s3, p3, l3, c3, q3, k3, d3, rfl, q, g'⟩
    exact ⟨_, _, _, _, _, _, _, _, rfl, ⟨rfl, fun z => (q z).mono hs⟩, g'⟩
  exact timesA_ (w.heap.size + 2) _ An Ap Al Ac Aq Ak Ad _ Bn Bp Bl Bc Bq Bk Bd _ Cn Cp Cl Cc Cq Ck Cd _ Dn Dp Dl Dc Dq Dk Dd (fun k W => EB K (w.heap.size + 3) (tb (pi9 (Fq.plz nA mA) (Fq.plz nC mC), pV9 (Fq.plz nA mA) (Fq.plz nC mC)) (pi9 (Fq.plz nA mA) (Fq.plz nD mD), pV9 (Fq.plz nA mA) (Fq.plz nD mD)) (pi9 (Fq.plz nB mB) (Fq.plz nC mC), pV9 (Fq.plz nB mB) (Fq.plz nC mC)) (pi9 (Fq.plz nB mB) (Fq.plz nD mD), pV9 (Fq.plz nB mB) (Fq.plz nD mD)) k) W)
    (fun k W W' ai an ap al ac aq ak ad g h => h.kp g)
    (fun k W ai an ap al ac aq ak ad i u h => ⟨h.1, fun z => (h.2 z).set (by simp) u⟩)
    (fun f i j k => (f = 54 ∧ tb (pi9 (Fq.plz nA mA) (Fq.plz nC mC), pV9 (Fq.plz nA mA) (Fq.plz nC mC)) (pi9 (Fq.plz nA mA) (Fq.plz nD mD), pV9 (Fq.plz nA mA) (Fq.plz nD mD)) (pi9 (Fq.plz nB mB) (Fq.plz nC mC), pV9 (Fq.plz nB mB) (Fq.plz nC mC)) (pi9 (Fq.plz nB mB) (Fq.plz nD mD), pV9 (Fq.plz nB mB) (Fq.plz nD mD)) k = lB (tb (pi9 (Fq.plz nA mA) (Fq.plz nC mC), pV9 (Fq.plz nA mA) (Fq.plz nC mC)) (pi9 (Fq.plz nA mA) (Fq.plz nD mD), pV9 (Fq.plz nA mA) (Fq.plz nD mD)) (pi9 (Fq.plz nB mB) (Fq.plz nC mC), pV9 (Fq.plz nB mB) (Fq.plz nC mC)) (pi9 (Fq.plz nB mB) (Fq.plz nD mD), pV9 (Fq.plz nB mB) (Fq.plz nD mD)) i) (tb (pi9 (Fq.plz nA mA) (Fq.plz nC mC), pV9 (Fq.plz nA mA) (Fq.plz nC mC)) (pi9 (Fq.plz nA mA) (Fq.plz nD mD), pV9 (Fq.plz nA mA) (Fq.plz nD mD)) (pi9 (Fq.plz nB mB) (Fq.plz nC mC), pV9 (Fq.plz nB mB) (Fq.plz nC mC)) (pi9 (Fq.plz nB mB) (Fq.plz nD mD), pV9 (Fq.plz nB mB) (Fq.plz nD mD)) j)) ∨ (f = 55 ∧ tb (pi9 (Fq.plz nA mA) (Fq.plz nC mC), pV9 (Fq.plz nA mA) (Fq.plz nC mC)) (pi9 (Fq.plz nA mA) (Fq.plz nD mD), pV9 (Fq.plz nA mA) (Fq.plz nD mD)) (pi9 (Fq.plz nB mB) (Fq.plz nC mC), pV9 (Fq.plz nB mB) (Fq.plz nC mC)) (pi9 (Fq.plz nB mB) (Fq.plz nD mD), pV9 (Fq.plz nB mB) (Fq.plz nD mD)) k = gB (tb (pi9 (Fq.plz nA mA) (Fq.plz nC mC), pV9 (Fq.plz nA mA) (Fq.plz nC mC)) (pi9 (Fq.plz nA mA) (Fq.plz nD mD), pV9 (Fq.plz nA mA) (Fq.plz nD mD)) (pi9 (Fq.plz nB mB) (Fq.plz nC mC), pV9 (Fq.plz nB mB) (Fq.plz nC mC)) (pi9 (Fq.plz nB mB) (Fq.plz nD mD), pV9 (Fq.plz nB mB) (Fq.plz nD mD)) i) (tb (pi9 (Fq.plz nA mA) (Fq.plz nC mC), pV9 (Fq.plz nA mA) (Fq.plz nC mC)) (pi9 (Fq.plz nA mA) (Fq.plz nD mD), pV9 (Fq.plz nA mA) (Fq.plz nD mD)) (pi9 (Fq.plz nB mB) (Fq.plz nC mC), pV9 (Fq.plz nB mB) (Fq.plz nC mC)) (pi9 (Fq.plz nB mB) (Fq.plz nD mD), pV9 (Fq.plz nB mB) (Fq.plz nD mD)) j)))
    w rfl
    (fun W g hs => pp W g hs nA nC mA mC hA hC An Ap Al Ac Aq Ak Ad Cn Cp Cl Cc Cq Ck Cd BA BC (hAw.kp g) (hCw.kp g))
    (fun W g hs => pp W g hs nA nD mA mD hA hD An Ap Al Ac Aq Ak Ad Dn Dp Dl Dc Dq Dk Dd BA BD (hAw.kp g) (hDw.kp g))
    (fun W g hs => pp W g hs nB nC mB mC hB hC Bn Bp Bl Bc Bq Bk Bd Cn Cp Cl Cc Cq Ck Cd BB BC (hBw.kp g) (hCw.kp g))
    (fun W g hs => pp W g hs nB nD mB mD hB hD Bn Bp Bl Bc Bq Bk Bd Dn Dp Dl Dc Dq Dk Dd BB BD (hBw.kp g) (hDw.kp g))
    (fun f i j k W ai an ap al ac aq ak ad bi bn bp bl bc bq bk bd hf h1 h2 => by
      rcases hf with ⟨rfl, e⟩ | ⟨rfl, e⟩
      · have h := lesserV_ K _ _ _ W ai an ap al ac aq ak ad bi bn bp bl bc bq bk bd h1 h2
        rw [← e] at h
        exact h
      · have h := greaterV_ K _ _ _ W ai an ap al ac aq ak ad bi bn bp bl bc bq bk bd h1 h2
        rw [← e] at h
        exact h)
    (Or.inl ⟨rfl, rfl⟩) (Or.inl ⟨rfl, rfl⟩) (Or.inl ⟨rfl, rfl⟩) (Or.inr ⟨rfl, rfl⟩) (Or.inr ⟨rfl, rfl⟩) (Or.inr ⟨rfl, rfl⟩)
set_option linter.unusedVariables false
set_option maxRecDepth 20000 in
set_option maxHeartbeats 2000000 in
theorem leastSumA_ (a b c d E Z : Nat) (w : World) (hl : ∀ W : World, Kp w W → W.cell? ⟨w.heap.size + 2, 0, none⟩ = some (.float .f64 E) → Calls Tryz.prog 38 #[.agg #[.float .f64 a, .float .f64 b], .agg #[.float .f64 c, .float .f64 d], .func (.func 49) #[] #[.pointer (some ⟨w.heap.size + 2, 0, none⟩)]] W fun e w' => e = .returned (.float .f64 Z) ∧ Kp W w') : Calls Tryz.prog 27 #[.agg #[.float .f64 a, .float .f64 b], .agg #[.float .f64 c, .float .f64 d], .float .f64 E] w fun e w' => e = .returned (.float .f64 Z) ∧ Kp w w' := by
  have hmf : ∀ (fn : Fn) (first cap : Array Value) (w : World), (Instr.makeFunc fn first cap).run Tryz.prog w = .ok (.func fn first cap) w := fun _ _ _ _ => rfl
  go_enter Tryz.func27, Tryz.ntmps27
  go_wp2_with (first | (go_at_call 38; refine (hl _ ((((Kp.refl w).alloc _).alloc _).alloc _) (by simp [go_sem])).mono ?_; rintro e w1 ⟨rfl, g1⟩))
  exact bodyPost_ret (v := .float .f64 Z) (by simp [results, Tryz.results27, go_sem]) rfl ⟨rfl, (Kp.trans ((((Kp.refl w).alloc _).alloc _).alloc _) g1)⟩
set_option linter.unusedVariables false

def H8 (w : World) (B : Nat) (a b c d e f g h : Value) : Prop := H6 w B a b c d e f ∧ Fq.H2 w (B + 3) g h
theorem H8.keep {W w : World} {B : Nat} {a b c d e f g h : Value} (x : H8 W B a b c d e f g h) (y : Kp W w) : H8 w B a b c d e f g h := ⟨H6.keep x.1 y, Fq.H2.keep x.2 y⟩
theorem H8.new (w : World) (a b c d e f g h : Value) (s t u v : TypeId) : H8 ((((w.alloc (.cells #[a, b] s)).alloc (.cells #[c, d] t)).alloc (.cells #[e, f] u)).alloc (.cells #[g, h] v)) w.heap.size a b c d e f g h := by
  refine ⟨⟨?_, ?_, ?_⟩, ?_⟩ <;> (unfold Fq.H2; simp [go_sem])
theorem H8.put {w : World} {B : Nat} {a b c d e f g h : Value} (x : H8 w B a b c d e f g h) (a' b' c' d' e' f' : Value) : H8 ((((((w.setCell ⟨B, 0, none⟩ a').setCell ⟨B, 1, none⟩ b').setCell ⟨B + 1, 0, none⟩ c').setCell ⟨B + 1, 1, none⟩ d').setCell ⟨B + 2, 0, none⟩ e').setCell ⟨B + 2, 1, none⟩ f') B a' b' c' d' e' f' g h := by
  refine ⟨⟨?_, ?_, ?_⟩, ?_⟩
  · exact Fq.H2.far (Fq.H2.far (Fq.H2.put x.1.1 a' b') (by omega) c' d') (by omega) e' f'
  · exact Fq.H2.far (Fq.H2.put (Fq.H2.far x.1.2.1 (by omega) a' b') c' d') (by omega) e' f'
  · exact Fq.H2.put (Fq.H2.far (Fq.H2.far x.1.2.2 (by omega) a' b') (by omega) c' d') e' f'
  · exact Fq.H2.far (Fq.H2.far (Fq.H2.far x.2 (by omega) a' b') (by omega) c' d') (by omega) e' f'
set_option maxRecDepth 20000 in
set_option maxHeartbeats 4000000 in
theorem fma6_ (a b c d e5 f5 L1 H1 L2 H2 L3 H3 : Nat) (hx : ∀ w : World, Calls Tryz.prog 15 #[.agg #[.float .f64 a, .float .f64 b]] w fun e w' => e = .returned (.agg #[.float .f64 L1, .float .f64 H1]) ∧ Kp w w') (hy : ∀ w : World, Calls Tryz.prog 15 #[.agg #[.float .f64 c, .float .f64 d]] w fun e w' => e = .returned (.agg #[.float .f64 L2, .float .f64 H2]) ∧ Kp w w') (hz : ∀ w : World, Calls Tryz.prog 15 #[.agg #[.float .f64 e5, .float .f64 f5]] w fun e w' => e = .returned (.agg #[.float .f64 L3, .float .f64 H3]) ∧ Kp w w') (V1 V2 V3 : Bool) (hv1 : ∀ w : World, Calls Tryz.prog 16 #[.agg #[.float .f64 L1, .float .f64 H1]] w fun e w' => e = .returned (.bool V1) ∧ Kp w w') (hv2 : ∀ w : World, Calls Tryz.prog 16 #[.agg #[.float .f64 L2, .float .f64 H2]] w fun e w' => e = .returned (.bool V2) ∧ Kp w w') (hv3 : ∀ w : World, Calls Tryz.prog 16 #[.agg #[.float .f64 L3, .float .f64 H3]] w fun e w' => e = .returned (.bool V3) ∧ Kp w w') (hE : ∀ w : World, Calls Tryz.prog 17 #[] w fun e w' => e = .returned (.agg #[.float .f64 9218868437227405312, .float .f64 18442240474082181120]) ∧ Kp w w') (NL NH MH Z1 Z2 Z3 : Nat) (w : World) (hq : (V1 || V2 || V3) = false → (∀ W : World, Kp w W → Calls Tryz.prog 27 #[.agg #[.float .f64 L1, .float .f64 H1], .agg #[.float .f64 L2, .float .f64 H2], .float .f64 L3] W fun e w' => e = .returned (.float .f64 Z1) ∧ Kp W w') ∧ (∀ w : World, Calls Tryz.prog 29 #[.agg #[.float .f64 L1, .float .f64 H1]] w fun e w' => e = .returned (.agg #[.float .f64 NL, .float .f64 NH]) ∧ Kp w w') ∧ (∀ w : World, Calls Tryz.prog 28 #[.float .f64 H3] w fun e w' => e = .returned (.float .f64 MH) ∧ w' = w) ∧ (∀ W : World, Kp w W → Calls Tryz.prog 27 #[.agg #[.float .f64 NL, .float .f64 NH], .agg #[.float .f64 L2, .float .f64 H2], .float .f64 MH] W fun e w' => e = .returned (.float .f64 Z2) ∧ Kp W w') ∧ (∀ w : World, Calls Tryz.prog 28 #[.float .f64 Z2] w fun e w' => e = .returned (.float .f64 Z3) ∧ w' = w)) : Calls Tryz.prog 12 #[.agg #[.float .f64 a, .float .f64 b], .agg #[.float .f64 c, .float .f64 d], .agg #[.float .f64 e5, .float .f64 f5]] w fun e w' => e = .returned (if V1 || V2 || V3 then .agg #[.float .f64 9218868437227405312, .float .f64 18442240474082181120] else .agg #[.float .f64 Z1, .float .f64 Z3]) ∧ Kp w w' := by
  go_enter Tryz.func12, Tryz.ntmps12
  go_upto_region 1 with fail
  go_cut [] (fun wx => H8 wx w.heap.size (.float .f64 L1) (.float .f64 H1) (.float .f64 L2) (.float .f64 H2) (.float .f64 L3) (.float .f64 H3) (.float .f64 0) (.float .f64 0) ∧ Kp w wx)
  case first =>
    go_region_with (first | (go_at_call_of 15 (Value.agg #[.float .f64 a, .float .f64 b]); refine (hx _).mono ?_; rintro e wx ⟨rfl, gx⟩; have kx : Kp w wx := Kp.trans (((((Kp.refl w).alloc _).alloc _).alloc _).alloc _).drew gx; have sx := H8.keep (H8.new w (.float .f64 a) (.float .f64 b) (.float .f64 c) (.float .f64 d) (.float .f64 e5) (.float .f64 f5) (.float .f64 0) (.float .f64 0) 28 28 28 28) (Kp.trans (Kp.drew (Kp.refl _)) gx); obtain ⟨⟨⟨p0, p1, p2, p3⟩, ⟨p4, p5, p6, p7⟩, ⟨p8, p9, pa, pb⟩⟩, ⟨pc, pd, pe, pf⟩⟩ := id sx) | (go_at_call_of 15 (Value.agg #[.float .f64 c, .float .f64 d]); refine (hy _).mono ?_; rintro e wy ⟨rfl, gy⟩; have ky := Kp.trans kx gy; have sy := H8.keep sx gy; obtain ⟨⟨⟨p0, p1, p2, p3⟩, ⟨p4, p5, p6, p7⟩, ⟨p8, p9, pa, pb⟩⟩, ⟨pc, pd, pe, pf⟩⟩ := id sy) | (go_at_call_of 15 (Value.agg #[.float .f64 e5, .float .f64 f5]); refine (hz _).mono ?_; rintro e wz ⟨rfl, gz⟩; have kz := Kp.trans ky gz; have sz := H8.keep sy gz; obtain ⟨⟨⟨p0, p1, p2, p3⟩, ⟨p4, p5, p6, p7⟩, ⟨p8, p9, pa, pb⟩⟩, ⟨pc, pd, pe, pf⟩⟩ := id sz))
    all_goals (
      go_wp2_with fail
      go_meet
      exact ⟨H8.put sz (.float .f64 L1) (.float .f64 H1) (.float .f64 L2) (.float .f64 H2) (.float .f64 L3) (.float .f64 H3), ((((((kz.setCell (Nat.le_refl _) _).setCell (Nat.le_refl _) _).setCell (by simp <;> omega) _).setCell (by simp <;> omega) _).setCell (by simp <;> omega) _).setCell (by simp <;> omega) _)⟩)
  case rest =>
  obtain ⟨sw, kw⟩ := hcut
  obtain ⟨⟨⟨p0, p1, p2, p3⟩, ⟨p4, p5, p6, p7⟩, ⟨p8, p9, pa, pb⟩⟩, ⟨pc, pd, pe, pf⟩⟩ := id sw
  cases V1
  · cases V2
    · cases V3
      · obtain ⟨h1, hN, hm1, h2, hm2⟩ := hq rfl
        go_upto_region 4 with (first | (go_at_call_of 16 (Value.agg #[.float .f64 L1, .float .f64 H1]); refine (hv1 _).mono ?_; rintro e wv ⟨rfl, gv⟩; replace kw := Kp.trans kw gv; replace sw := H8.keep sw gv; clear gv; obtain ⟨⟨⟨p0, p1, p2, p3⟩, ⟨p4, p5, p6, p7⟩, ⟨p8, p9, pa, pb⟩⟩, ⟨pc, pd, pe, pf⟩⟩ := id sw) | (go_at_call_of 16 (Value.agg #[.float .f64 L2, .float .f64 H2]); refine (hv2 _).mono ?_; rintro e wv ⟨rfl, gv⟩; replace kw := Kp.trans kw gv; replace sw := H8.keep sw gv; clear gv; obtain ⟨⟨⟨p0, p1, p2, p3⟩, ⟨p4, p5, p6, p7⟩, ⟨p8, p9, pa, pb⟩⟩, ⟨pc, pd, pe, pf⟩⟩ := id sw) | (go_at_call_of 16 (Value.agg #[.float .f64 L3, .float .f64 H3]); refine (hv3 _).mono ?_; rintro e wv ⟨rfl, gv⟩; replace kw := Kp.trans kw gv; replace sw := H8.keep sw gv; clear gv; obtain ⟨⟨⟨p0, p1, p2, p3⟩, ⟨p4, p5, p6, p7⟩, ⟨p8, p9, pa, pb⟩⟩, ⟨pc, pd, pe, pf⟩⟩ := id sw))
        clear p0 p1 p2 p3 p4 p5 p6 p7 p8 p9 pa pb pc pd pe pf
        generalize wv = W at kw sw ⊢
        have xw0 := sw.1.1.1
        have dw0 : W.drew.cell? ⟨w.heap.size, 0, none⟩ = some (.float .f64 L1) := xw0
        have xw1 := sw.1.1.2.1
        have dw1 : W.drew.cell? ⟨w.heap.size, 1, none⟩ = some (.float .f64 H1) := xw1
        have xw2 := sw.1.2.1.1
        have dw2 : W.drew.cell? ⟨w.heap.size + 1, 0, none⟩ = some (.float .f64 L2) := xw2
        have xw3 := sw.1.2.1.2.1
        have dw3 : W.drew.cell? ⟨w.heap.size + 1, 1, none⟩ = some (.float .f64 H2) := xw3
        have xw4 := sw.1.2.2.1
        have dw4 : W.drew.cell? ⟨w.heap.size + 2, 0, none⟩ = some (.float .f64 L3) := xw4
        have xw5 := sw.1.2.2.2.1
        have dw5 : W.drew.cell? ⟨w.heap.size + 2, 1, none⟩ = some (.float .f64 H3) := xw5
        have r0 := sw.2.1
        have r1 := sw.2.2.1
        have rz0 := sw.2.2.2.1
        have rz1 := sw.2.2.2.2
        have hn1 : w.heap.size + 3 ≠ w.heap.size := by omega
        have hn2 : w.heap.size + 3 ≠ w.heap.size + 1 := by omega
        have hn3 : w.heap.size + 3 ≠ w.heap.size + 2 := by omega
        go_region_held3 (fun w' => w'.cell? ⟨w.heap.size, 0, none⟩ = some (.float .f64 L1) ∧ w'.cell? ⟨w.heap.size, 1, none⟩ = some (.float .f64 H1) ∧ w'.cell? ⟨w.heap.size + 1, 0, none⟩ = some (.float .f64 L2) ∧ w'.cell? ⟨w.heap.size + 1, 1, none⟩ = some (.float .f64 H2) ∧ w'.cell? ⟨w.heap.size + 2, 0, none⟩ = some (.float .f64 L3) ∧ w'.cell? ⟨w.heap.size + 2, 1, none⟩ = some (.float .f64 H3)) (first | (with_reducible exact ⟨xw0, xw1, xw2, xw3, xw4, xw5⟩) | (with_reducible exact ⟨dw0, dw1, dw2, dw3, dw4, dw5⟩) | (with_reducible exact ⟨aw0, aw1, aw2, aw3, aw4, aw5⟩) | (with_reducible exact ⟨nw0, nw1, nw2, nw3, nw4, nw5⟩) | (with_reducible exact ⟨hw0, hw1, hw2, hw3, hw4, hw5⟩) | (exact ⟨((World.cell?_setCell_far _ _ _ _ hn1).trans ((World.cell?_setCell_far _ _ _ _ hn1).trans hw0)), ((World.cell?_setCell_far _ _ _ _ hn1).trans ((World.cell?_setCell_far _ _ _ _ hn1).trans hw1)), ((World.cell?_setCell_far _ _ _ _ hn2).trans ((World.cell?_setCell_far _ _ _ _ hn2).trans hw2)), ((World.cell?_setCell_far _ _ _ _ hn2).trans ((World.cell?_setCell_far _ _ _ _ hn2).trans hw3)), ((World.cell?_setCell_far _ _ _ _ hn3).trans ((World.cell?_setCell_far _ _ _ _ hn3).trans hw4)), ((World.cell?_setCell_far _ _ _ _ hn3).trans ((World.cell?_setCell_far _ _ _ _ hn3).trans hw5))⟩)) (first | (go_at_call_of 27 (Value.agg #[.float .f64 L1, .float .f64 H1]); refine (h1 _ ?q0).mono ?_; (case q0 => first | exact kw.trans (Kp.drew (Kp.refl _)) | exact kw); rintro e wl ⟨rfl, gl⟩; have kl : Kp W wl := (by first | exact Kp.trans (Kp.drew (Kp.refl _)) gl | exact gl); have aw0 := kkeep kl xw0; have aw1 := kkeep kl xw1; have aw2 := kkeep kl xw2; have aw3 := kkeep kl xw3; have aw4 := kkeep kl xw4; have aw5 := kkeep kl xw5) | (go_at_call 29; refine (hN _).mono ?_; rintro e wn ⟨rfl, gn⟩; have kn : Kp W wn := Kp.trans kl gn; have nw0 := kkeep kn xw0; have nw1 := kkeep kn xw1; have nw2 := kkeep kn xw2; have nw3 := kkeep kn xw3; have nw4 := kkeep kn xw4; have nw5 := kkeep kn xw5) | (go_at_call_of 28 (Value.float .f64 H3); refine (hm1 _).mono ?_; rintro e wm ⟨rfl, gm⟩; obtain rfl := gm.symm; clear gm) | (go_at_call_of 27 (Value.agg #[.float .f64 NL, .float .f64 NH]); refine (h2 _ ?q0).mono ?_; (case q0 => exact kw.trans kn); rintro e wh ⟨rfl, gh⟩; have kh : Kp W wh := Kp.trans kn gh; have hw0 := kkeep kh xw0; have hw1 := kkeep kh xw1; have hw2 := kkeep kh xw2; have hw3 := kkeep kh xw3; have hw4 := kkeep kh xw4; have hw5 := kkeep kh xw5; have R0 := kkeep kh r0; have Rz0 : wh.frozen? ⟨w.heap.size + 3, 0, none⟩ = false := (kfro kh (cell_lt r0)).trans rz0; have R1 := kkeep kh r1; have Rz1 : wh.frozen? ⟨w.heap.size + 3, 1, none⟩ = false := (kfro kh (cell_lt r1)).trans rz1) | (go_at_call_of 28 (Value.float .f64 Z2); refine (hm2 _).mono ?_; rintro e wm ⟨rfl, gm⟩; obtain rfl := gm.symm; clear gm))
        go_wp2
        exact bodyPost_ret (v := .agg #[.float .f64 Z1, .float .f64 Z3]) (by simp [results, Tryz.results12, go_sem, R0, R1]) rfl ⟨rfl, (((Kp.trans kw kh)).setCell (by simp <;> omega) _).setCell (by simp <;> omega) _⟩
      · go_wp2_with (first | (go_at_call_of 16 (Value.agg #[.float .f64 L1, .float .f64 H1]); refine (hv1 _).mono ?_; rintro e wv ⟨rfl, gv⟩; replace kw := Kp.trans kw gv; replace sw := H8.keep sw gv; clear gv; obtain ⟨⟨⟨p0, p1, p2, p3⟩, ⟨p4, p5, p6, p7⟩, ⟨p8, p9, pa, pb⟩⟩, ⟨pc, pd, pe, pf⟩⟩ := id sw) | (go_at_call_of 16 (Value.agg #[.float .f64 L2, .float .f64 H2]); refine (hv2 _).mono ?_; rintro e wv ⟨rfl, gv⟩; replace kw := Kp.trans kw gv; replace sw := H8.keep sw gv; clear gv; obtain ⟨⟨⟨p0, p1, p2, p3⟩, ⟨p4, p5, p6, p7⟩, ⟨p8, p9, pa, pb⟩⟩, ⟨pc, pd, pe, pf⟩⟩ := id sw) | (go_at_call_of 16 (Value.agg #[.float .f64 L3, .float .f64 H3]); refine (hv3 _).mono ?_; rintro e wv ⟨rfl, gv⟩; replace kw := Kp.trans kw gv; replace sw := H8.keep sw gv; clear gv; obtain ⟨⟨⟨p0, p1, p2, p3⟩, ⟨p4, p5, p6, p7⟩, ⟨p8, p9, pa, pb⟩⟩, ⟨pc, pd, pe, pf⟩⟩ := id sw) | (go_at_call 17; refine (hE _).mono ?_; rintro e we ⟨rfl, ge⟩; replace kw := Kp.trans kw ge; replace sw := H8.keep sw ge; clear ge; obtain ⟨⟨⟨p0, p1, p2, p3⟩, ⟨p4, p5, p6, p7⟩, ⟨p8, p9, pa, pb⟩⟩, ⟨pc, pd, pe, pf⟩⟩ := id sw))
        exact bodyPost_ret (v := .agg #[.float .f64 9218868437227405312, .float .f64 18442240474082181120]) (by simp [results, Tryz.results12, go_sem, pc, pd]) rfl ⟨rfl, (kw.setCell (by simp <;> omega) _).setCell (by simp <;> omega) _⟩
    · go_wp2_with (first | (go_at_call_of 16 (Value.agg #[.float .f64 L1, .float .f64 H1]); refine (hv1 _).mono ?_; rintro e wv ⟨rfl, gv⟩; replace kw := Kp.trans kw gv; replace sw := H8.keep sw gv; clear gv; obtain ⟨⟨⟨p0, p1, p2, p3⟩, ⟨p4, p5, p6, p7⟩, ⟨p8, p9, pa, pb⟩⟩, ⟨pc, pd, pe, pf⟩⟩ := id sw) | (go_at_call_of 16 (Value.agg #[.float .f64 L2, .float .f64 H2]); refine (hv2 _).mono ?_; rintro e wv ⟨rfl, gv⟩; replace kw := Kp.trans kw gv; replace sw := H8.keep sw gv; clear gv; obtain ⟨⟨⟨p0, p1, p2, p3⟩, ⟨p4, p5, p6, p7⟩, ⟨p8, p9, pa, pb⟩⟩, ⟨pc, pd, pe, pf⟩⟩ := id sw) | (go_at_call 17; refine (hE _).mono ?_; rintro e we ⟨rfl, ge⟩; replace kw := Kp.trans kw ge; replace sw := H8.keep sw ge; clear ge; obtain ⟨⟨⟨p0, p1, p2, p3⟩, ⟨p4, p5, p6, p7⟩, ⟨p8, p9, pa, pb⟩⟩, ⟨pc, pd, pe, pf⟩⟩ := id sw))
      exact bodyPost_ret (v := .agg #[.float .f64 9218868437227405312, .float .f64 18442240474082181120]) (by simp [results, Tryz.results12, go_sem, pc, pd]) rfl ⟨rfl, (kw.setCell (by simp <;> omega) _).setCell (by simp <;> omega) _⟩
  · go_wp2_with (first | (go_at_call_of 16 (Value.agg #[.float .f64 L1, .float .f64 H1]); refine (hv1 _).mono ?_; rintro e wv ⟨rfl, gv⟩; replace kw := Kp.trans kw gv; replace sw := H8.keep sw gv; clear gv; obtain ⟨⟨⟨p0, p1, p2, p3⟩, ⟨p4, p5, p6, p7⟩, ⟨p8, p9, pa, pb⟩⟩, ⟨pc, pd, pe, pf⟩⟩ := id sw) | (go_at_call 17; refine (hE _).mono ?_; rintro e we ⟨rfl, ge⟩; replace kw := Kp.trans kw ge; replace sw := H8.keep sw ge; clear ge; obtain ⟨⟨⟨p0, p1, p2, p3⟩, ⟨p4, p5, p6, p7⟩, ⟨p8, p9, pa, pb⟩⟩, ⟨pc, pd, pe, pf⟩⟩ := id sw))
    exact bodyPost_ret (v := .agg #[.float .f64 9218868437227405312, .float .f64 18442240474082181120]) (by simp [results, Tryz.results12, go_sem, pc, pd]) rfl ⟨rfl, (kw.setCell (by simp <;> omega) _).setCell (by simp <;> omega) _⟩
set_option linter.unusedVariables false

theorem lsum9_ (K : Nat) (hK : K = 1074) (L1 H1 L2 H2 e : Int) (d1 : VdZ L1 H1) (d2 : VdZ L2 H2) (n1 : L1 ≠ 9218868437227405312) (n2 : L2 ≠ 9218868437227405312) (he : BdZ e) (hI : e ≠ 9218868437227405312) (w : World) (hT : TT w) : Calls Tryz.prog 27 #[.agg #[.float .f64 (pw L1), .float .f64 (pw H1)], .agg #[.float .f64 (pw L2), .float .f64 (pw H2)], .float .f64 (pw e)] w fun v w' => v = .returned (.float .f64 (pw (lst (fmZ K e) L1 H1 L2 H2))) ∧ Kp w w' := by
  have b1 := d1.lo; have b2 := d1.hi; have b3 := d2.lo; have b4 := d2.hi
  unfold VdZ at d1 d2
  have he2 := he
  unfold BdZ at he2
  have lo : ∀ (x y : Int), BdZ x → BdZ y → (((x = 9218868437227405312 ∨ x = -9218868437227405312) ∨ (y = 9218868437227405312 ∨ y = -9218868437227405312)) → (e = 9218868437227405312 ∨ e = -9218868437227405312) → x ≠ 0 → y ≠ 0 → ((x < 0 ↔ y < 0) ↔ 0 < e)) → ∀ W0 : World, TT W0 → W0.cell? ⟨w.heap.size + 2, 0, none⟩ = some (.float .f64 (pw e)) → ∀ W : World, Kp W0 W → Calls Tryz.prog 49 #[.float .f64 (pw x), .float .f64 (pw y), .pointer (some ⟨w.heap.size + 2, 0, none⟩)] W fun v w' => v = .returned (.float .f64 (pw (fmZ K e x y))) ∧ Kp W w' := fun x y g1 g2 hb W0 t hc W k => cloP_ K hK x y e _ g1 g2 he hb W (t.kp k) (kkeep k hc)
  refine leastSumA_ _ _ _ _ _ _ w (fun W k hc => ?_)
  have hT := hT.kp k
  exact lsF9_ (fmZ K e) L1 H1 L2 H2 _ b1 b2 b3 b4 W (fun q1 q2 => lo _ _ b2 b3 (by omega) W hT hc) (fun q1 q2 => lo _ _ b1 b4 (by omega) W hT hc) (fun q1 q2 q3 => lo _ _ b2 b4 (by omega) W hT hc) (fun q1 q2 q3 => lo _ _ b1 b3 (by omega) W hT hc) (fmZ_bd _ _ _ _ he) (fmZ_bd _ _ _ _ he)
def fLo (K : Nat) (L1 H1 L2 H2 L3 H3 : Int) : Int := if L1 = 9218868437227405312 ∨ L2 = 9218868437227405312 ∨ L3 = 9218868437227405312 then 9218868437227405312 else lst (fmZ K L3) L1 H1 L2 H2
def fHi (K : Nat) (L1 H1 L2 H2 L3 H3 : Int) : Int := if L1 = 9218868437227405312 ∨ L2 = 9218868437227405312 ∨ L3 = 9218868437227405312 then -9218868437227405312 else -(lst (fmZ K (-H3)) (-H1) (-L1) L2 H2)
theorem fma9_ (K : Nat) (hK : K = 1074) (a b c d e5 f5 : Nat) (L1 H1 L2 H2 L3 H3 : Int) (hx : Rd a b L1 H1) (hy : Rd c d L2 H2) (hz : Rd e5 f5 L3 H3) (w : World) (hT : TT w) : Calls Tryz.prog 12 #[.agg #[.float .f64 a, .float .f64 b], .agg #[.float .f64 c, .float .f64 d], .agg #[.float .f64 e5, .float .f64 f5]] w fun e w' => e = .returned (.agg #[.float .f64 (pw (fLo K L1 H1 L2 H2 L3 H3)), .float .f64 (pw (fHi K L1 H1 L2 H2 L3 H3))]) ∧ Kp w w' := by
  have v1 := void9_ L1 H1 hx.vd
  have v2 := void9_ L2 H2 hy.vd
  have v3 := void9_ L3 H3 hz.vd
  unfold fLo fHi
  by_cases cE : L1 = 9218868437227405312 ∨ L2 = 9218868437227405312 ∨ L3 = 9218868437227405312
  · rw [if_pos cE, if_pos cE, pw_I, pw_MI]
    have q : (decide (L1 = 9218868437227405312) || decide (L2 = 9218868437227405312) || decide (L3 = 9218868437227405312)) = true := by
      rcases cE with h | h | h
      · rw [decide_eq_true h]; rfl
      · rw [decide_eq_true h]; simp
      · rw [decide_eq_true h]; simp
    have h := fma6_ a b c d e5 f5 _ _ _ _ _ _ hx.call hy.call hz.call _ _ _ v1 v2 v3 empty9_ 0 0 0 0 0 0 w (fun g => by rw [q] at g; cases g)
    rw [q] at h
    simpa using h
  rw [if_neg cE, if_neg cE]
  rw [decide_eq_false (show ¬ L1 = 9218868437227405312 by omega)] at v1
  rw [decide_eq_false (show ¬ L2 = 9218868437227405312 by omega)] at v2
  rw [decide_eq_false (show ¬ L3 = 9218868437227405312 by omega)] at v3
  have d1 := hx.vd
  have d2 := hy.vd
  have d3 := hz.vd
  have dn := vd_neg _ _ d1
  have b5 := d3.lo; have b6 := d3.hi
  have q1 : -H1 ≠ 9218868437227405312 := by unfold VdZ at d1; omega
  have q3 : -H3 ≠ 9218868437227405312 := by unfold VdZ at d3; omega
  have h := fma6_ a b c d e5 f5 _ _ _ _ _ _ hx.call hy.call hz.call _ _ _ v1 v2 v3 empty9_ _ _ _ _ _ _ w (fun _ => ⟨fun W k => lsum9_ K hK L1 H1 L2 H2 L3 d1 d2 (by omega) (by omega) b5 (by omega) W (hT.kp k), neg9_ _ _ _ _ (Rd.of d1), minus9_ H3 b6, fun W k => lsum9_ K hK (-H1) (-L1) L2 H2 (-H3) dn d2 q1 (by omega) (bd_neg _ b6) q3 W (hT.kp k), minus9_ _ (lst_bd _ (fun x y => fmZ_bd K _ x y (bd_neg _ b6)) _ _ _ _)⟩)
  simpa using h
end Go.Proofs.YtinohggonicjhaaGreatDoor
