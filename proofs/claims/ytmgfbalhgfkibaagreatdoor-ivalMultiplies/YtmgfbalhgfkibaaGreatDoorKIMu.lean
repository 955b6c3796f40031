import Derived.Test.YtmgfbalhgfkibaaGreatDoorKEG
import Derived.Test.YtmgfbalhgfkibaaGreatDoorKIMq
import Derived.Test.YtmgfbalhgfkibaaGreatDoorKIMt
namespace Go.Proofs.YtmgfbalhgfkibaaGreatDoor
open Go.RowKit
set_option linter.unusedVariables false

def EB (K base : Nat) (B : Int × Int) (W : World) (ai : Int) (an : Bool) (ap : Option Addr) (al ac : Nat) (aq : Option Addr) (ak ad : Nat) : Prop := ai = B.1 ∧ (B.1 = 0 → XP base W an ap al ac aq ak ad B.2 (2 ^ K * 2 ^ K) 7000)
theorem cmJ_I (V W : Int) : cmI V W = cmJ V W := by unfold cmI cmJ; rfl
theorem cmpB_ (K base : Nat) (Ba Bb : Int × Int) (W : World) (ai : Int) (an : Bool) (ap : Option Addr) (al ac : Nat) (aq : Option Addr) (ak ad : Nat) (bi : Int) (bn : Bool) (bp : Option Addr) (bl bc : Nat) (bq : Option Addr) (bk bd : Nat) (h1 : EB K base Ba W ai an ap al ac aq ak ad) (h2 : EB K base Bb W bi bn bp bl bc bq bk bd) : Calls Tryz.prog 46 #[.agg #[.int .i64 ai, .bool an, .slice ap al ac, .slice aq ak ad], .agg #[.int .i64 bi, .bool bn, .slice bp bl bc, .slice bq bk bd]] W fun e w' => e = .returned (.int .i64 (cB Ba.1 Ba.2 Bb.1 Bb.2)) ∧ Kp W w' := by
  obtain ⟨e1, x1⟩ := h1
  obtain ⟨e2, x2⟩ := h2
  subst e1
  subst e2
  unfold cB
  rcases Int.lt_trichotomy Ba.1 Bb.1 with c | c | c
  · rw [if_pos c]
    exact endL_ _ _ an ap al ac aq ak ad bn bp bl bc bq bk bd (by simp; omega) c W
  · rw [if_neg (by omega), if_neg (by omega)]
    by_cases z : Ba.1 = 0
    · rw [if_neg (by omega)]
      have y1 := x1 z
      have y2 := x2 (by omega)
      have pk : (0 : Int) < ((2 ^ K * 2 ^ K : Nat) : Int) := by
        have := Nat.mul_pos (Nat.two_pow_pos K) (Nat.two_pow_pos K); omega
      have h := endZ_ (cmJ Ba.2 Bb.2) an ap al ac aq ak ad bn bp bl bc bq bk bd W (fun W' g => by
        have h := xcmp_ base base Ba.2 Bb.2 (2 ^ K * 2 ^ K) (2 ^ K * 2 ^ K) 7000 7000 (by omega) (by omega) an ap al ac aq ak ad bn bp bl bc bq bk bd W' (y1.kp g) (y2.kp g)
        rw [cmI_scale _ _ _ pk, cmJ_I] at h
        exact h)
      rw [show Bb.1 = 0 from by omega, z]
      exact h
    · rw [if_pos z, ← c]
      exact endE_ _ an ap al ac aq ak ad bn bp bl bc bq bk bd (by simp; omega) W
  · rw [if_neg (by omega), if_pos c]
    exact endG_ _ _ an ap al ac aq ak ad bn bp bl bc bq bk bd (by simp; omega) (by omega) W
theorem EB.kp {K base : Nat} {B : Int × Int} {W W' : World} {ai : Int} {an : Bool} {ap : Option Addr} {al ac : Nat} {aq : Option Addr} {ak ad : Nat} (h : EB K base B W ai an ap al ac aq ak ad) (g : Kp W W') : EB K base B W' ai an ap al ac aq ak ad := ⟨h.1, fun z => (h.2 z).kp g⟩
theorem lesserV_ (K base : Nat) (Ba Bb : Int × Int) (W : World) (ai : Int) (an : Bool) (ap : Option Addr) (al ac : Nat) (aq : Option Addr) (ak ad : Nat) (bi : Int) (bn : Bool) (bp : Option Addr) (bl bc : Nat) (bq : Option Addr) (bk bd : Nat) (h1 : EB K base Ba W ai an ap al ac aq ak ad) (h2 : EB K base Bb W bi bn bp bl bc bq bk bd) : Calls Tryz.prog 29 #[.agg #[.int .i64 ai, .bool an, .slice ap al ac, .slice aq ak ad], .agg #[.int .i64 bi, .bool bn, .slice bp bl bc, .slice bq bk bd]] W fun e w' => ∃ ci cn cp cl cc cq ck cd, e = .returned (.agg #[.int .i64 ci, .bool cn, .slice cp cl cc, .slice cq ck cd]) ∧ EB K base (lB Ba Bb) w' ci cn cp cl cc cq ck cd ∧ Kp W w' := by
  have hc := fun (W' : World) (g : Kp W W') => cmpB_ K base Bb Ba W' bi bn bp bl bc bq bk bd ai an ap al ac aq ak ad (h2.kp g) (h1.kp g)
  unfold lB
  by_cases c : cB Bb.1 Bb.2 Ba.1 Ba.2 < 0
  · rw [if_pos c]
    refine (lesserB_ ai bi _ an ap al ac aq ak ad bn bp bl bc bq bk bd c W hc).mono ?_
    rintro e w' ⟨rfl, g⟩
    exact ⟨bi, bn, bp, bl, bc, bq, bk, bd, rfl, h2.kp g, g⟩
  · rw [if_neg c]
    refine (lesserA_ ai bi _ an ap al ac aq ak ad bn bp bl bc bq bk bd c W hc).mono ?_
    rintro e w' ⟨rfl, g⟩
    exact ⟨ai, an, ap, al, ac, aq, ak, ad, rfl, h1.kp g, g⟩
theorem greaterV_ (K base : Nat) (Ba Bb : Int × Int) (W : World) (ai : Int) (an : Bool) (ap : Option Addr) (al ac : Nat) (aq : Option Addr) (ak ad : Nat) (bi : Int) (bn : Bool) (bp : Option Addr) (bl bc : Nat) (bq : Option Addr) (bk bd : Nat) (h1 : EB K base Ba W ai an ap al ac aq ak ad) (h2 : EB K base Bb W bi bn bp bl bc bq bk bd) : Calls Tryz.prog 30 #[.agg #[.int .i64 ai, .bool an, .slice ap al ac, .slice aq ak ad], .agg #[.int .i64 bi, .bool bn, .slice bp bl bc, .slice bq bk bd]] W fun e w' => ∃ ci cn cp cl cc cq ck cd, e = .returned (.agg #[.int .i64 ci, .bool cn, .slice cp cl cc, .slice cq ck cd]) ∧ EB K base (gB Ba Bb) w' ci cn cp cl cc cq ck cd ∧ Kp W w' := by
  have hc := fun (W' : World) (g : Kp W W') => cmpB_ K base Bb Ba W' bi bn bp bl bc bq bk bd ai an ap al ac aq ak ad (h2.kp g) (h1.kp g)
  unfold gB
  by_cases c : 0 < cB Bb.1 Bb.2 Ba.1 Ba.2
  · rw [if_pos c]
    refine (greaterB_ ai bi _ an ap al ac aq ak ad bn bp bl bc bq bk bd c W hc).mono ?_
    rintro e w' ⟨rfl, g⟩
    exact ⟨bi, bn, bp, bl, bc, bq, bk, bd, rfl, h2.kp g, g⟩
  · rw [if_neg c]
    refine (greaterA_ ai bi _ an ap al ac aq ak ad bn bp bl bc bq bk bd c W hc).mono ?_
    rintro e w' ⟨rfl, g⟩
    exact ⟨ai, an, ap, al, ac, aq, ak, ad, rfl, h1.kp g, g⟩
def tb (p0 p1 p2 p3 : Int × Int) : Nat → Int × Int
  | 0 => p0 | 1 => p1 | 2 => p2 | 3 => p3 | 4 => lB p0 p1 | 5 => lB p2 p3 | 6 => lB (lB p0 p1) (lB p2 p3) | 7 => gB p0 p1 | 8 => gB p2 p3 | _ => gB (gB p0 p1) (gB p2 p3)
theorem timesE_ (K : Nat) (hK : K = 1074) (nA nB nC nD : Bool) (mA mB mC mD : Nat) (hA : mA ≤ 9218868437227405312) (hB : mB ≤ 9218868437227405312) (hC : mC ≤ 9218868437227405312) (hD : mD ≤ 9218868437227405312) (An : Bool) (Ap : Option Addr) (Al Ac : Nat) (Aq : Option Addr) (Ak Ad : Nat) (Bn : Bool) (Bp : Option Addr) (Bl Bc : Nat) (Bq : Option Addr) (Bk Bd : Nat) (Cn : Bool) (Cp : Option Addr) (Cl Cc : Nat) (Cq : Option Addr) (Ck Cd : Nat) (Dn : Bool) (Dp : Option Addr) (Dl Dc : Nat) (Dq : Option Addr) (Dk Dd : Nat) (BA BB BC BD : Nat) (w : World) (hAw : RP BA w An Ap Al Ac Aq Ak Ad (fN nA mA) (fM mA)) (hBw : RP BB w Bn Bp Bl Bc Bq Bk Bd (fN nB mB) (fM mB)) (hCw : RP BC w Cn Cp Cl Cc Cq Ck Cd (fN nC mC) (fM mC)) (hDw : RP BD w Dn Dp Dl Dc Dq Dk Dd (fN nD mD) (fM mD)) :
    Calls Tryz.prog 16 #[.agg #[.bool false, .int .i64 (infS nA mA), .bool An, .slice Ap Al Ac, .slice Aq Ak Ad, .int .i64 (infS nB mB), .bool Bn, .slice Bp Bl Bc, .slice Bq Bk Bd], .agg #[.bool false, .int .i64 (infS nC mC), .bool Cn, .slice Cp Cl Cc, .slice Cq Ck Cd, .int .i64 (infS nD mD), .bool Dn, .slice Dp Dl Dc, .slice Dq Dk Dd]] w fun e w' => ∃ Gi Gn Gp Gl Gc Gq Gk Gd Oi On Op Ol Oc Oq Ok Od, e = .returned (.agg #[.bool false, .int .i64 Gi, .bool Gn, .slice Gp Gl Gc, .slice Gq Gk Gd, .int .i64 Oi, .bool On, .slice Op Ol Oc, .slice Oq Ok Od]) ∧ EB K (w.heap.size + 3) (lB (lB (pi9 (Fq.plz nA mA) (Fq.plz nC mC), pV9 (Fq.plz nA mA) (Fq.plz nC mC)) (pi9 (Fq.plz nA mA) (Fq.plz nD mD), pV9 (Fq.plz nA mA) (Fq.plz nD mD))) (lB (pi9 (Fq.plz nB mB) (Fq.plz nC mC), pV9 (Fq.plz nB mB) (Fq.plz nC mC)) (pi9 (Fq.plz nB mB) (Fq.plz nD mD), pV9 (Fq.plz nB mB) (Fq.plz nD mD)))) w' Gi Gn Gp Gl Gc Gq Gk Gd ∧ EB K (w.heap.size + 3) (gB (gB (pi9 (Fq.plz nA mA) (Fq.plz nC mC), pV9 (Fq.plz nA mA) (Fq.plz nC mC)) (pi9 (Fq.plz nA mA) (Fq.plz nD mD), pV9 (Fq.plz nA mA) (Fq.plz nD mD))) (gB (pi9 (Fq.plz nB mB) (Fq.plz nC mC), pV9 (Fq.plz nB mB) (Fq.plz nC mC)) (pi9 (Fq.plz nB mB) (Fq.plz nD mD), pV9 (Fq.plz nB mB) (Fq.plz nD mD)))) w' Oi On Op Ol Oc Oq Ok Od ∧ Kp w w' := by
  have pp : ∀ (W : World), Kp w W → w.heap.size + 3 ≤ W.heap.size → ∀ (n n' : Bool) (m m' : Nat) (hm : m ≤ 9218868437227405312) (hm' : m' ≤ 9218868437227405312) (an : Bool) (ap : Option Addr) (al ac : Nat) (aq : Option Addr) (ak ad : Nat) (bn : Bool) (bp : Option Addr) (bl bc : Nat) (bq : Option Addr) (bk bd : Nat) (B1 B2 : Nat), RP B1 W an ap al ac aq ak ad (fN n m) (fM m) → RP B2 W bn bp bl bc bq bk bd (fN n' m') (fM m') → Calls Tryz.prog 28 #[.agg #[.int .i64 (infS n m), .bool an, .slice ap al ac, .slice aq ak ad], .agg #[.int .i64 (infS n' m'), .bool bn, .slice bp bl bc, .slice bq bk bd]] W fun e w' => ∃ pi pn pp pl pc pq pk pd, e = .returned (.agg #[.int .i64 pi, .bool pn, .slice pp pl pc, .slice pq pk pd]) ∧ EB K (w.heap.size + 3) (pi9 (Fq.plz n m) (Fq.plz n' m'), pV9 (Fq.plz n m) (Fq.plz n' m')) w' pi pn pp pl pc pq pk pd ∧ Kp W w' := by
    intro W g hs n n' m m' hm hm' an ap al ac aq ak ad bn bp bl bc bq bk bd B1 B2 r1 r2
    refine (prodE_ K hK n n' m m' hm hm' an ap al ac aq ak ad bn bp bl bc bq bk bd B1 B2 W r1 r2).mono ?_
    rintro e w' ⟨s3, p3, l3, c3, q3, k3, d3, rfl, q, g'⟩
    exact ⟨_, _, _, _, _, _, _, _, rfl, ⟨rfl, fun z => (q z).mono hs⟩, g'⟩
  exact timesA_ (w.heap.size + 2) _ An Ap Al Ac Aq Ak Ad _ Bn Bp Bl Bc Bq Bk Bd _ Cn Cp Cl Cc Cq Ck Cd _ Dn Dp Dl Dc Dq Dk Dd (fun k W => EB K (w.heap.size + 3) (tb (pi9 (Fq.plz nA mA) (Fq.plz nC mC), pV9 (Fq.plz nA mA) (Fq.plz nC mC)) (pi9 (Fq.plz nA mA) (Fq.plz nD mD), pV9 (Fq.plz nA mA) (Fq.plz nD mD)) (pi9 (Fq.plz nB mB) (Fq.plz nC mC), pV9 (Fq.plz nB mB) (Fq.plz nC mC)) (pi9 (Fq.plz nB mB) (Fq.plz nD mD), pV9 (Fq.plz nB mB) (Fq.plz nD mD)) k) W)
    (fun k W W' ai an ap al ac aq ak ad g h => h.kp g)
    (fun k W ai an ap al ac aq ak ad i u h => ⟨h.1, fun z => (h.2 z).set (by simp) u⟩)
    (fun f i j k => (f = 29 ∧ tb (pi9 (Fq.plz nA mA) (Fq.plz nC mC), pV9 (Fq.plz nA mA) (Fq.plz nC mC)) (pi9 (Fq.plz nA mA) (Fq.plz nD mD), pV9 (Fq.plz nA mA) (Fq.plz nD mD)) (pi9 (Fq.plz nB mB) (Fq.plz nC mC), pV9 (Fq.plz nB mB) (Fq.plz nC mC)) (pi9 (Fq.plz nB mB) (Fq.plz nD mD), pV9 (Fq.plz nB mB) (Fq.plz nD mD)) k = lB (tb (pi9 (Fq.plz nA mA) (Fq.plz nC mC), pV9 (Fq.plz nA mA) (Fq.plz nC mC)) (pi9 (Fq.plz nA mA) (Fq.plz nD mD), pV9 (Fq.plz nA mA) (Fq.plz nD mD)) (pi9 (Fq.plz nB mB) (Fq.plz nC mC), pV9 (Fq.plz nB mB) (Fq.plz nC mC)) (pi9 (Fq.plz nB mB) (Fq.plz nD mD), pV9 (Fq.plz nB mB) (Fq.plz nD mD)) i) (tb (pi9 (Fq.plz nA mA) (Fq.plz nC mC), pV9 (Fq.plz nA mA) (Fq.plz nC mC)) (pi9 (Fq.plz nA mA) (Fq.plz nD mD), pV9 (Fq.plz nA mA) (Fq.plz nD mD)) (pi9 (Fq.plz nB mB) (Fq.plz nC mC), pV9 (Fq.plz nB mB) (Fq.plz nC mC)) (pi9 (Fq.plz nB mB) (Fq.plz nD mD), pV9 (Fq.plz nB mB) (Fq.plz nD mD)) j)) ∨ (f = 30 ∧ tb (pi9 (Fq.plz nA mA) (Fq.plz nC mC), pV9 (Fq.plz nA mA) (Fq.plz nC mC)) (pi9 (Fq.plz nA mA) (Fq.plz nD mD), pV9 (Fq.plz nA mA) (Fq.plz nD mD)) (pi9 (Fq.plz nB mB) (Fq.plz nC mC), pV9 (Fq.plz nB mB) (Fq.plz nC mC)) (pi9 (Fq.plz nB mB) (Fq.plz nD mD), pV9 (Fq.plz nB mB) (Fq.plz nD mD)) k = gB (tb (pi9 (Fq.plz nA mA) (Fq.plz nC mC), pV9 (Fq.plz nA mA) (Fq.plz nC mC)) (pi9 (Fq.plz nA mA) (Fq.plz nD mD), pV9 (Fq.plz nA mA) (Fq.plz nD mD)) (pi9 (Fq.plz nB mB) (Fq.plz nC mC), pV9 (Fq.plz nB mB) (Fq.plz nC mC)) (pi9 (Fq.plz nB mB) (Fq.plz nD mD), pV9 (Fq.plz nB mB) (Fq.plz nD mD)) i) (tb (pi9 (Fq.plz nA mA) (Fq.plz nC mC), pV9 (Fq.plz nA mA) (Fq.plz nC mC)) (pi9 (Fq.plz nA mA) (Fq.plz nD mD), pV9 (Fq.plz nA mA) (Fq.plz nD mD)) (pi9 (Fq.plz nB mB) (Fq.plz nC mC), pV9 (Fq.plz nB mB) (Fq.plz nC mC)) (pi9 (Fq.plz nB mB) (Fq.plz nD mD), pV9 (Fq.plz nB mB) (Fq.plz nD mD)) j)))
    w rfl
    (fun W g hs => pp W g hs nA nC mA mC hA hC An Ap Al Ac Aq Ak Ad Cn Cp Cl Cc Cq Ck Cd BA BC (hAw.kp g) (hCw.kp g))
    (fun W g hs => pp W g hs nA nD mA mD hA hD An Ap Al Ac Aq Ak Ad Dn Dp Dl Dc Dq Dk Dd BA BD (hAw.kp g) (hDw.kp g))
    (fun W g hs => pp W g hs nB nC mB mC hB hC Bn Bp Bl Bc Bq Bk Bd Cn Cp Cl Cc Cq Ck Cd BB BC (hBw.kp g) (hCw.kp g))
    (fun W g hs => pp W g hs nB nD mB mD hB hD Bn Bp Bl Bc Bq Bk Bd Dn Dp Dl Dc Dq Dk Dd BB BD (hBw.kp g) (hDw.kp g))
    (fun f i j k W ai an ap al ac aq ak ad bi bn bp bl bc bq bk bd hf h1 h2 => by
      rcases hf with ⟨rfl, e⟩ | ⟨rfl, e⟩
      · have h := lesserV_ K _ _ _ W ai an ap al ac aq ak ad bi bn bp bl bc bq bk bd h1 h2
        rw [← e] at h
        exact h
      · have h := greaterV_ K _ _ _ W ai an ap al ac aq ak ad bi bn bp bl bc bq bk bd h1 h2
        rw [← e] at h
        exact h)
    (Or.inl ⟨rfl, rfl⟩) (Or.inl ⟨rfl, rfl⟩) (Or.inl ⟨rfl, rfl⟩) (Or.inr ⟨rfl, rfl⟩) (Or.inr ⟨rfl, rfl⟩) (Or.inr ⟨rfl, rfl⟩)
set_option linter.unusedVariables false
theorem mul_fma (d V : Int) (ng : Bool) (P : Nat) (hP : V.natAbs = P) (hng : V ≠ 0 → ng = decide (V < 0)) : mulW d ng P = fmaW d V := by
  unfold mulW fmaW
  by_cases c : V = 0
  · rw [if_pos c, if_pos (by rw [← hP, c]; rfl)]
  · rw [if_neg c, if_neg (by omega), hng c, hP]

theorem XP.qp {base : Nat} {w : World} {s : Bool} {p : Option Addr} {l c : Nat} {q : Option Addr} {k d : Nat} {V : Int} {K : Nat} (hK : K = 1074) (h : XP base w s p l c q k d V (2 ^ K * 2 ^ K) 7000) : QP base w s p l c q k d (fun dd => pz (g53 dd 1 (2 ^ K) V)) := by
  obtain ⟨a, b, h1, h2, f1, f2, f3, f4, f5⟩ := h
  refine ⟨a, b, h1, h2, f1, by omega, by omega, fun dd => ?_⟩
  show _ = pz (g53 dd 1 (2 ^ K) V)
  rw [← fmaW_g K hK, ← mul_fma dd V (decide (V < 0)) V.natAbs rfl (fun _ => rfl)]
  have pc : (0 : Int) < ((2 ^ K * 2 ^ K : Nat) : Int) := by
    have := Nat.mul_pos (Nat.two_pow_pos K) (Nat.two_pow_pos K); omega
  have pb : (0 : Int) < (b : Int) := by omega
  refine ref_mul dd s (decide (V < 0)) a b a b V.natAbs K hK f1 ⟨f1, Iff.rfl, fun d' p' t' _ => by rw [Int.add_zero], by omega, by omega⟩ (fun hx => ?_) ?_
  · generalize ((2 ^ K * 2 ^ K : Nat) : Int) = C at pc f3
    have pa : (0 : Int) < (a : Int) := by omega
    have k1 := Int.mul_pos pa pc
    unfold rvI at f3
    cases s
    · rw [if_neg (by decide)] at f3
      refine (decide_eq_false (fun hv => ?_)).symm
      have k2 := Int.mul_neg_of_neg_of_pos hv pb
      omega
    · rw [if_pos rfl, Int.neg_mul] at f3
      refine (decide_eq_true ?_).symm
      by_cases hv : V < 0
      · exact hv
      · have k2 := Int.mul_nonneg (show 0 ≤ V by omega) (Int.le_of_lt pb)
        omega
  · have k := congrArg Int.natAbs f3
    rw [Int.natAbs_mul, Int.natAbs_mul, Int.natAbs_natCast, Int.natAbs_natCast, show (rvI s a).natAbs = a from by unfold rvI; cases s <;> simp] at k
    rw [Nat.pow_add]
    exact k
def SVt (K : Nat) (L H : Int × Int) (W : World) (v : Value) : Prop := ∃ (i j : Int) (s : Bool) (p : Option Addr) (l c : Nat) (q : Option Addr) (k d : Nat) (s2 : Bool) (p2 : Option Addr) (l2 c2 : Nat) (q2 : Option Addr) (k2 d2 : Nat), v = .agg #[.bool false, .int .i64 i, .bool s, .slice p l c, .slice q k d, .int .i64 j, .bool s2, .slice p2 l2 c2, .slice q2 k2 d2] ∧ EB K 0 L W i s p l c q k d ∧ EB K 0 H W j s2 p2 l2 c2 q2 k2 d2
theorem timesS_ (K : Nat) (hK : K = 1074) (n1 g1 n2 g2 : Bool) (m1 r1 m2 r2 : Nat) (y1 : m1 ≤ 9218868437227405312) (y2 : r1 ≤ 9218868437227405312) (y3 : m2 ≤ 9218868437227405312) (y4 : r2 ≤ 9218868437227405312) (W : World) (u v : Value) (h1 : SV1 n1 m1 g1 r1 W u) (h2 : SV1 n2 m2 g2 r2 W v) : Calls Tryz.prog 16 #[u, v] W fun e w' => ∃ v', e = .returned v' ∧ SVt K (lB (lB (pi9 (Fq.plz n1 m1) (Fq.plz n2 m2), pV9 (Fq.plz n1 m1) (Fq.plz n2 m2)) (pi9 (Fq.plz n1 m1) (Fq.plz g2 r2), pV9 (Fq.plz n1 m1) (Fq.plz g2 r2))) (lB (pi9 (Fq.plz g1 r1) (Fq.plz n2 m2), pV9 (Fq.plz g1 r1) (Fq.plz n2 m2)) (pi9 (Fq.plz g1 r1) (Fq.plz g2 r2), pV9 (Fq.plz g1 r1) (Fq.plz g2 r2)))) (gB (gB (pi9 (Fq.plz n1 m1) (Fq.plz n2 m2), pV9 (Fq.plz n1 m1) (Fq.plz n2 m2)) (pi9 (Fq.plz n1 m1) (Fq.plz g2 r2), pV9 (Fq.plz n1 m1) (Fq.plz g2 r2))) (gB (pi9 (Fq.plz g1 r1) (Fq.plz n2 m2), pV9 (Fq.plz g1 r1) (Fq.plz n2 m2)) (pi9 (Fq.plz g1 r1) (Fq.plz g2 r2), pV9 (Fq.plz g1 r1) (Fq.plz g2 r2)))) w' v' ∧ Kp W w' := by
  obtain ⟨s, p, l, c, q, k, d, s2, p2, l2, c2, q2, k2, d2, rfl, a1, a2⟩ := h1
  obtain ⟨s3, p3, l3', c3, q3, k3, d3, s4, p4, l4', c4, q4, k4, d4, rfl, b1, b2⟩ := h2
  refine (timesE_ K hK n1 g1 n2 g2 m1 r1 m2 r2 y1 y2 y3 y4 s p l c q k d s2 p2 l2 c2 q2 k2 d2 s3 p3 l3' c3 q3 k3 d3 s4 p4 l4' c4 q4 k4 d4 0 0 0 0 W a1 a2 b1 b2).mono ?_
  rintro e w' ⟨Gi, Gn, Gp, Gl, Gc, Gq, Gk, Gd, Oi, On, Op, Ol, Oc, Oq, Ok, Od, rfl, x1, x2, g⟩
  exact ⟨_, rfl, ⟨Gi, Oi, Gn, Gp, Gl, Gc, Gq, Gk, Gd, On, Op, Ol, Oc, Oq, Ok, Od, rfl, ⟨x1.1, fun z => (x1.2 z).mono (Nat.zero_le _)⟩, ⟨x2.1, fun z => (x2.2 z).mono (Nat.zero_le _)⟩⟩, g⟩
theorem leastT_ (K : Nat) (hK : K = 1074) (L H : Int × Int) (oL : okB L) (oH : okB H) (nL : L.1 ≠ 1) (nH : H.1 ≠ -1) (W : World) (v : Value) (h : SVt K L H W v) : Calls Tryz.prog 15 #[v] W fun e w' => e = .returned (.agg #[.int .u64 ((pw (rB K (-1) L.1 L.2) : Nat) : Int), .int .u64 ((pw (rB K 1 H.1 H.2) : Nat) : Int)]) ∧ Kp W w' := by
  obtain ⟨i, j, s, p, l, c, q, k, d, s2, p2, l2, c2, q2, k2, d2, rfl, ⟨e1, x1⟩, ⟨e2, x2⟩⟩ := h
  subst e1
  subst e2
  unfold okB at oL oH
  have h := leastP_ L.1 H.1 (fun dd => pz (g53 dd 1 (2 ^ K) L.2)) (fun dd => pz (g53 dd 1 (2 ^ K) H.2)) s p l c q k d s2 p2 l2 c2 q2 k2 d2 0 0 W (fun y => (x1 y).qp hK) (fun y => (x2 y).qp hK)
  have f1 : (if L.1 = 0 then (fun dd => pz (g53 dd 1 (2 ^ K) L.2)) (-1) else 18442240474082181120) = pw (rB K (-1) L.1 L.2) := by
    unfold rB
    by_cases z : L.1 = 0
    · rw [if_pos z, if_neg (by omega), if_neg (by omega)]; rfl
    · rw [if_neg z, if_neg nL, if_pos (by omega), pw_MI]
  have f2 : (if H.1 = 0 then (fun dd => pz (g53 dd 1 (2 ^ K) H.2)) 1 else 9218868437227405312) = pw (rB K 1 H.1 H.2) := by
    unfold rB
    by_cases z : H.1 = 0
    · rw [if_pos z, if_neg (by omega), if_neg (by omega)]; rfl
    · rw [if_neg z, if_pos (by omega), pw_I]
  rw [f1, f2] at h
  exact h
theorem okL (K : Nat) (a b c d : Int × Int) (h1 : okB a) (h2 : okB b) (h3 : okB c) (h4 : okB d) : okB (lB (lB a b) (lB c d)) ∧ okB (gB (gB a b) (gB c d)) :=
  ⟨(lB_le K (-1) _ _ (lB_le K (-1) _ _ h1 h2).2 (lB_le K (-1) _ _ h3 h4).2).2, (gB_le K 1 _ _ (gB_le K 1 _ _ h1 h2).2 (gB_le K 1 _ _ h3 h4).2).2⟩
theorem rd_snd (a b : Nat) (L H : Int) (h : Rd a b L H) (hs : Fq.snd a b = true) : L ≠ 9218868437227405312 := by
  intro e
  have h2 : a ≠ 9218868437227405312 := by intro h; rw [h] at hs; simp [Fq.snd] at hs
  have h1 : Fq.rlo a b ≠ 9218868437227405312 := by simp only [Fq.rlo, hs, if_true, Fq.pla]; split <;> omega
  exact h1 (by rw [h.2.2.2.1, e, pw_I])
theorem rd_void (a b : Nat) (ha : a < 18446744073709551616) (hb : b < 18446744073709551616) (hs : Fq.snd a b = false) : Rd a b 9218868437227405312 (-9218868437227405312) :=
  ⟨ha, hb, Or.inl ⟨rfl, rfl⟩, by rw [pw_I]; simp [Fq.rlo, hs], by rw [pw_MI]; simp [Fq.rhi, hs]⟩
theorem natAbs_bd (z : Int) (h : BdZ z) : z.natAbs ≤ 9218868437227405312 := by unfold BdZ at h; omega
theorem mul_both6 (a b c d : Nat) (ha : a < 18446744073709551616) (hb : b < 18446744073709551616) (hc : c < 18446744073709551616) (hd : d < 18446744073709551616) : ∃ LO HI : Nat, (∀ w : World, Tab w → Fq.Tab w → Calls Tryz.prog 5 #[.agg #[.float .f64 a, .float .f64 b], .agg #[.float .f64 c, .float .f64 d]] w fun e w' => e = .returned (.agg #[.float .f64 LO, .float .f64 HI]) ∧ Kp w w') ∧ (∀ w : World, Calls Tryz.prog 7 #[.agg #[.int .u64 ((a : Nat) : Int), .int .u64 ((b : Nat) : Int)], .agg #[.int .u64 ((c : Nat) : Int), .int .u64 ((d : Nat) : Int)]] w fun e w' => e = .returned (.agg #[.int .u64 ((LO : Nat) : Int), .int .u64 ((HI : Nat) : Int)]) ∧ Kp w w') := by
  obtain ⟨K, hK⟩ : ∃ K : Nat, K = 1074 := ⟨_, rfl⟩
  obtain ⟨M1, J1, w1⟩ := Rd.ex a b ha hb
  obtain ⟨M2, J2, w2⟩ := Rd.ex c d hc hd
  by_cases s1 : Fq.snd a b = true
  · by_cases s2 : Fq.snd c d = true
    · have nL1 := rd_snd a b M1 J1 w1 s1
      have nL2 := rd_snd c d M2 J2 w2 s2
      have te := times_eq K M1 J1 M2 J2 w1.vd w2.vd nL1 nL2
      have ok := okL K (pi9 M1 M2, pV9 M1 M2) (pi9 M1 J2, pV9 M1 J2) (pi9 J1 M2, pV9 J1 M2) (pi9 J1 J2, pV9 J1 J2) (pi9_is _ _) (pi9_is _ _) (pi9_is _ _) (pi9_is _ _)
      refine ⟨pw (mLo K M1 J1 M2 J2), pw (mHi K M1 J1 M2 J2), fun w hT hQ => mul9_ K hK a b c d M1 J1 M2 J2 w1 w2 w ⟨hT, hQ⟩, fun w => ?_⟩
      rw [← te.2.2.1, ← te.2.2.2]
      have hl := fun (W : World) (v : Value) => leastT_ K hK _ _ ok.1 ok.2 te.1 te.2.1 W v
      have l1 := natAbs_bd M1 w1.vd.lo
      have l2 := natAbs_bd J1 w1.vd.hi
      have l3 := natAbs_bd M2 w2.vd.lo
      have l4 := natAbs_bd J2 w2.vd.hi
      have ht := fun (W : World) (u v : Value) => timesS_ K hK (decide (M1 < 0)) (decide (J1 < 0)) (decide (M2 < 0)) (decide (J2 < 0)) M1.natAbs J1.natAbs M2.natAbs J2.natAbs l1 l2 l3 l4 W u v
      simp only [plz_pw] at ht
      exact radd6c_ _ _ _ _ _ _ (SV1 (decide (M1 < 0)) M1.natAbs (decide (J1 < 0)) J1.natAbs) (SV1 (decide (M2 < 0)) M2.natAbs (decide (J2 < 0)) J2.natAbs) (SVt K _ _) w (fun W W' v g h => h.kp g) (fun W _ => ofSound_ a b ha hb s1 _ _ _ _ l1 l2 w1.2.2.2.1 w1.2.2.2.2 W) (fun W _ => ofSound_ c d hc hd s2 _ _ _ _ l3 l4 w2.2.2.2.1 w2.2.2.2.2 W) (fun W u v _ h1 h2 => ht W u v h1 h2) (fun W v _ h => hl W v h)
    · have s2 : Fq.snd c d = false := by simpa using s2
      refine ⟨9218868437227405312, 18442240474082181120, fun w hT hQ => ?_, fun w => ?_⟩
      · have h := mul9_ K hK a b c d M1 J1 _ _ w1 (rd_void c d hc hd s2) w ⟨hT, hQ⟩
        unfold mLo mHi at h
        rw [if_pos (Or.inr rfl), if_pos (Or.inr rfl), pw_I, pw_MI] at h
        exact h
      · refine radd6c_ _ _ _ _ _ _ (fun _ v => SV0 (!(Fq.snd a b)) v) (fun _ v => SV0 (!(Fq.snd c d)) v) (fun _ v => SV0 true v) w (fun W W' v g h => h) (fun W _ => of0_ a b ha hb W) (fun W _ => of0_ c d hc hd W) (fun W u v _ h1 h2 => plusX_ _ _ ?_ W u v h1 h2) (fun W v _ h => leastN_ W v h)
        rw [s2]; exact .inr rfl
  · have s1 : Fq.snd a b = false := by simpa using s1
    refine ⟨9218868437227405312, 18442240474082181120, fun w hT hQ => ?_, fun w => ?_⟩
    · have h := mul9_ K hK a b c d _ _ M2 J2 (rd_void a b ha hb s1) w2 w ⟨hT, hQ⟩
      unfold mLo mHi at h
      rw [if_pos (Or.inl rfl), if_pos (Or.inl rfl), pw_I, pw_MI] at h
      exact h
    · refine radd6c_ _ _ _ _ _ _ (fun _ v => SV0 (!(Fq.snd a b)) v) (fun _ v => SV0 (!(Fq.snd c d)) v) (fun _ v => SV0 true v) w (fun W W' v g h => h) (fun W _ => of0_ a b ha hb W) (fun W _ => of0_ c d hc hd W) (fun W u v _ h1 h2 => plusX_ _ _ ?_ W u v h1 h2) (fun W v _ h => leastN_ W v h)
      rw [s1]; exact .inl rfl
set_option maxRecDepth 20000 in
set_option maxHeartbeats 4000000 in
theorem ivmuls_ (a b c d : Nat) (ha : a < 18446744073709551616) (hb : b < 18446744073709551616) (hc : c < 18446744073709551616) (hd : d < 18446744073709551616) (w : World) (hT : Tab w) (hQ : Fq.Tab w) : Calls Tryz.prog 3 #[.agg #[.int .u64 ((a : Nat) : Int), .int .u64 ((b : Nat) : Int)], .agg #[.int .u64 ((c : Nat) : Int), .int .u64 ((d : Nat) : Int)]] w fun e w' => e = .returned (.bool true) ∧ Kp w w' := by
  obtain ⟨LO, HI, hP0, hR⟩ := mul_both6 a b c d ha hb hc hd
  have hP : ∀ W : World, Kp w W → Calls Tryz.prog 5 #[.agg #[.float .f64 a, .float .f64 b], .agg #[.float .f64 c, .float .f64 d]] W fun e w' => e = .returned (.agg #[.float .f64 LO, .float .f64 HI]) ∧ Kp W w' := fun W g => hP0 W (hT.grown g) (Fq.Tab.grown hQ g)
  have h1 := Fq.in_ a b
  have h2 := Fq.in_ c d
  have hO := Fq.out_ LO HI
  clear hP0 hT hQ ha hb hc hd
  generalize (LO : Int) = LI at hR hO
  generalize (HI : Int) = HJ at hR hO
  generalize (a : Int) = X at h1 hR ⊢
  generalize (b : Int) = Y at h1 hR ⊢
  generalize (c : Int) = Z at h2 hR ⊢
  generalize (d : Int) = V at h2 hR ⊢
  go_enter Tryz.func3, Tryz.ntmps3
  go_wp2
  refine Fq.wp_region_grow (by kernel_rfl) (by kernel_rfl) (fun ι _ G hG hall => ?_)
  have cc0 : ∀ n, (G n).cell? ⟨w.heap.size, 0, none⟩ = some (.int .u64 X) := fun n => Fq.gkeep (hG n) (by simp [go_sem])
  have cc1 : ∀ n, (G n).cell? ⟨w.heap.size, 1, none⟩ = some (.int .u64 Y) := fun n => Fq.gkeep (hG n) (by simp [go_sem])
  have cc2 : ∀ n, (G n).cell? ⟨w.heap.size + 1, 0, none⟩ = some (.int .u64 Z) := fun n => Fq.gkeep (hG n) (by simp [go_sem])
  have cc3 : ∀ n, (G n).cell? ⟨w.heap.size + 1, 1, none⟩ = some (.int .u64 V) := fun n => Fq.gkeep (hG n) (by simp [go_sem])
  have kG : ∀ n, Kp w (G n) := fun n => Kp.trans (((Kp.refl w).alloc _).alloc _) (hG n)
  repeat (go_big_quiet_step (first | (go_at_call_of 6 (Value.int .u64 X); exact (h1 _).mono (fun e w' h => ⟨h.1, hall _ (Fq.gtrans (hG _) h.2)⟩)) | (go_at_call_of 6 (Value.int .u64 Z); exact (h2 _).mono (fun e w' h => ⟨h.1, hall _ (Fq.gtrans (hG _) h.2)⟩)) | (go_at_call 5; exact (hP _ (kG _)).mono (fun e w' h => ⟨h.1, hall _ (Fq.gtrans (hG _) h.2)⟩)) | (go_at_call 4; exact (hO _).mono (fun e w' h => ⟨h.1, hall _ (Fq.gtrans (hG _) h.2)⟩)) | (go_at_call 7; exact (hR _).mono (fun e w' h => ⟨h.1, hall _ (Fq.gtrans (hG _) h.2)⟩))))
  refine wpQuiet_nil ?_
  rintro _ ⟨nq, rfl⟩
  have gq := kG nq
  clear cc0 cc1 cc2 cc3 hall hG kG
  go_wp2
  exact bodyPost_ret (v := .bool true) (by simp [results, Tryz.results3, go_sem]) rfl ⟨rfl, gq⟩
end Go.Proofs.YtmgfbalhgfkibaaGreatDoor
