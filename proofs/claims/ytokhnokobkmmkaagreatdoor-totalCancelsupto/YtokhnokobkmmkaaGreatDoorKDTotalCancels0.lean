import Derived.Test.YtokhnokobkmmkaaGreatDoorKTLe
import Derived.RowKit
import Derived.Laws.FloatArith
import Derived.WalkKit
import Derived.ProofKit
import Derived.RowKit3
import Derived.WalkSpells
import Derived.StillTactics
import Derived.Deep.QuietTactic
import Derived.BigQuiet
import Derived.Below
import Derived.Deep.WholeRow
import Derived.Deep.MidRow
import Derived.Laws.Externs
import Derived.Deep.Cut
import Derived.Deep.RegionWith
import Derived.Deep.RegionHeld3
import Derived.Laws.Bits64
import Derived.Lib.Zigzag
import Derived.OrdersHeld
import Derived.Deep.RegionHeld
import Derived.Deep.OwnRows
import Derived.Laws.MakeOwn
import Derived.Laws.BitsAllLaws
namespace Go.Proofs.YtokhnokobkmmkaaGreatDoor
open Go.RowKit
theorem Nr.fix {v s : Int} {T : Nat} (h : Nr v s T) (hv : FL v) : s = v := by
  have := h.nearest hv
  omega
end Go.Proofs.YtokhnokobkmmkaaGreatDoor
namespace Go.Proofs.YtokhnokobkmmkaaGreatDoor
open Go.RowKit
theorem rn_nr (A : Nat) : Nr (A : Int) ((rU 0 53 A 1 : Nat) : Int) (2 ^ rE 53 A 1) := by
  obtain ⟨h1, h2⟩ := rE_spec 53 A 1 (by omega) (by omega)
  obtain ⟨E, hE⟩ : ∃ E, E = rE 53 A 1 := ⟨_, rfl⟩
  obtain ⟨T, hT⟩ : ∃ T, T = 2 ^ E := ⟨_, rfl⟩
  have hTp : 0 < T := by rw [hT]; exact Nat.two_pow_pos E
  have hU : rU 0 53 A 1 = (A / T + (upw 0 (A / T) (A % T) T).toNat) * T := by
    unfold rU rS rR
    rw [← hE, Nat.one_mul, ← hT]
  rw [← hE, Nat.one_mul, Nat.pow_add, ← hT, show (2 : Nat) ^ 53 = 9007199254740992 from by decide] at h1
  rw [hU, ← hE, ← hT]
  have hdm := Nat.div_add_mod A T
  have hml := Nat.mod_lt A hTp
  obtain ⟨Q, hQ⟩ : ∃ Q, Q = A / T := ⟨_, rfl⟩
  obtain ⟨r, hr⟩ : ∃ r, r = A % T := ⟨_, rfl⟩
  rw [← hQ, ← hr] at hdm
  rw [← hr] at hml
  rw [← hQ, ← hr]
  refine ⟨hTp, ⟨((Q + (upw 0 Q r T).toNat : Nat) : Int), by rw [Int.natCast_mul, Int.mul_comm]⟩, ?_, by rw [Int.natAbs_natCast]; omega, ?_, ⟨E, hT⟩⟩
  · have hc : T * Q = Q * T := Nat.mul_comm _ _
    cases hu : upw 0 Q r T
    · have h9 : ¬ T < 2 * r := fun h => by unfold upw at hu; simp at hu; omega
      simp only [Bool.toNat_false, Nat.add_zero]
      omega
    · have h9 : T ≤ 2 * r := by
        unfold upw at hu
        simp at hu
        omega
      simp only [Bool.toNat_true]
      have : (Q + 1) * T = Q * T + T := by rw [Nat.add_mul, Nat.one_mul]
      omega
  · rw [Int.natAbs_natCast]
    rcases h2 with h | h
    · left; rw [hT, hE, h, Nat.pow_zero]
    · right
      rw [← hE, Nat.one_mul, show E + 53 - 1 = E + 52 from by omega, Nat.pow_add, ← hT, show (2 : Nat) ^ 52 = 4503599627370496 from by decide] at h
      omega
end Go.Proofs.YtokhnokobkmmkaaGreatDoor
namespace Go.Proofs.YtokhnokobkmmkaaGreatDoor
open Go.RowKit
/-- what a sum of V least places answers, in the direction d -/
def sumW (d V : Int) : Nat := if V = 0 then 0 else mdW (decide (V < 0)) (finU 53 2098 9218868437227405311 9218868437227405312 (dirN (decide (V < 0)) d) (rU (dirN (decide (V < 0)) d) 53 V.natAbs 1))
end Go.Proofs.YtokhnokobkmmkaaGreatDoor
namespace Go.Proofs.YtokhnokobkmmkaaGreatDoor
open Go.RowKit
theorem infoS : (Tryz.prog.info? 57).map (·.size) = some 69 := by kernel_rfl
end Go.Proofs.YtokhnokobkmmkaaGreatDoor
namespace Go.Proofs.YtokhnokobkmmkaaGreatDoor
open Go.RowKit
theorem iv_fl (n : Bool) (m : Nat) : FL (Iv n m) := by
  have h : FL ((Fq.vV Ieee.double m : Nat) : Int) := by
    unfold Fq.vV
    refine ⟨Fq.eE Ieee.double m, by rw [Int.natCast_mul, castpow]; exact Int.dvd_mul_left _ _, ?_⟩
    rw [Int.natAbs_natCast]
    refine Nat.mul_le_mul_right _ ?_
    unfold Fq.mM
    rw [Fq.binD]
    split <;> omega
  unfold Iv
  cases n
  · exact h
  · exact h.neg
end Go.Proofs.YtokhnokobkmmkaaGreatDoor
namespace Go.Proofs.YtokhnokobkmmkaaGreatDoor
open Go.RowKit
theorem sum_mul (d V : Int) (ng : Bool) (P K : Nat) (hK : K = 1074) (hP : V.natAbs * 2 ^ K = P) (hng : V ≠ 0 → ng = decide (V < 0)) : sumW d V = mulW d ng P := by
  unfold sumW mulW
  by_cases c : V = 0
  · rw [if_pos c, if_pos (by rw [← hP, c]; simp)]
  · have hp : P ≠ 0 := by rw [← hP]; exact Nat.mul_ne_zero (by omega) (Nat.ne_of_gt (Nat.two_pow_pos K))
    rw [if_neg c, if_neg hp, ← hng c, ← hP, rV_up _ _ _ _ _ _ (by decide), show (-1074 : Int) + (K : Int) = 0 from by omega]
    unfold rV
    rw [show ((0 : Int)).toNat = 0 from rfl, show (-(0 : Int)).toNat = 0 from rfl, Nat.pow_zero, Nat.mul_one, Nat.mul_one]
end Go.Proofs.YtokhnokobkmmkaaGreatDoor
namespace Go.Proofs.YtokhnokobkmmkaaGreatDoor
open Go.RowKit
theorem sum_fma (d V W : Int) (K : Nat) (hK : K = 1074) (h : W = V * ((2 ^ K : Nat) : Int)) : sumW d V = fmaW d W := by
  have hp : (0 : Int) < ((2 ^ K : Nat) : Int) := by have := Nat.two_pow_pos K; omega
  obtain ⟨g1, g2⟩ := sgn_mul V _ hp
  rw [← h] at g1 g2
  rw [sum_mul d V (decide (V < 0)) W.natAbs K hK (by rw [h, Int.natAbs_mul, Int.natAbs_natCast]) (fun _ => rfl)]
  refine mul_fma d W _ _ rfl (fun _ => ?_)
  rw [decide_eq_decide]; exact g1
end Go.Proofs.YtokhnokobkmmkaaGreatDoor
namespace Go.Proofs.YtokhnokobkmmkaaGreatDoor
open Go.RowKit
set_option linter.unusedVariables false
set_option linter.unusedSimpArgs false
theorem Bk.cellsTo {b : Nat} {t : TypeId} : ∀ (vs : List Value) (o : Nat) (w : World) (C : Array Value), Bk w b C t → ∃ D, Bk (w.setCells b o vs) b D t ∧ D.size = C.size ∧ (∀ j, j < o → D[j]? = C[j]?) ∧ (∀ j, o + vs.length ≤ j → D[j]? = C[j]?) ∧ (∀ j, j < vs.length → o + j < C.size → D[o + j]? = vs[j]?)
  | [], o, w, C, h => ⟨C, h, rfl, fun _ _ => rfl, fun _ _ => rfl, fun j hj => by simp at hj⟩
  | v :: vs, o, w, C, h => by
    obtain ⟨D, d1, d2, d3, d4, d5⟩ := Bk.cellsTo vs (o + 1) _ _ (h.put o v)
    refine ⟨D, d1, by rw [d2]; simp, fun j hj => ?_, fun j hj => ?_, fun j hj hs => ?_⟩
    · rw [d3 j (by omega), Array.getElem?_setIfInBounds_ne (by omega)]
    · rw [d4 j (by simp at hj; omega), Array.getElem?_setIfInBounds_ne (by simp at hj; omega)]
    · cases j with
      | zero =>
        rw [Nat.add_zero, d3 o (by omega), Array.getElem?_setIfInBounds_self_of_lt (by simpa using hs)]; rfl
      | succ j =>
        have := d5 j (by simpa using hj) (by simp; omega)
        rw [show o + (j + 1) = o + 1 + j by omega, this]; rfl
theorem Kb.cellsTo (b : Nat) : ∀ (vs : List Value) (o : Nat) (a w : World), Kb b a w → Kb b a (w.setCells b o vs)
  | [], _, _, _, h => h
  | v :: vs, o, a, w, h => Kb.cellsTo b vs (o + 1) a _ (h.setCell o v)
theorem Sb.setW {w : World} {b : Nat} {ws : List Nat} {k : Nat} {s : Int} (h : Sb w b ws k s) (z : List Nat) (hz : z.length = 67) : Sb (w.setCells b 0 (wc z).toList) b z k s := by
  obtain ⟨D, d1, d2, d3, d4, d5⟩ := Bk.cellsTo (wc z).toList 0 w _ h.2
  have e : D = wc z ++ #[.int .u64 (k : Int), .int .i64 s] := by
    apply Array.ext_getElem?
    intro j
    have hzs : (wc z).size = 67 := by rw [wc_size, hz]
    have hws : (wc ws).size = 67 := by rw [wc_size, h.1]
    by_cases c : j < 67
    · have := d5 j (by simpa [hzs] using c) (by rw [Array.size_append, hws]; omega)
      rw [Nat.zero_add] at this
      rw [this, Array.getElem?_append_left (by omega)]; simp
    · rw [d4 j (by simp [hzs]; omega), Array.getElem?_append_right (by omega), Array.getElem?_append_right (by omega), hzs, hws]
  rw [e] at d1
  exact ⟨hz, d1⟩
theorem storeS {w : World} {b : Nat} {ws : List Nat} {k : Nat} {s : Int} (h : Sb w b ws k s) (z : List Nat) (hz : z.length = 67) : (storeVar 55 ⟨b, 0, none⟩ (.agg (wc z))).run Tryz.prog w = .ok () (w.setCells b 0 (wc z).toList) := by
  refine run_storeVar_mid w b 0 55 (wc z) (fun j hj => ?_) (by rw [wc_size, hz]; exact infoW) (wc_one z)
  rw [wc_size, hz] at hj
  rw [Nat.zero_add]
  exact ⟨by rw [h.2.word j (by rw [h.1]; exact hj)]; rfl, h.2.frozen j⟩
end Go.Proofs.YtokhnokobkmmkaaGreatDoor
namespace Go.Proofs.YtokhnokobkmmkaaGreatDoor
open Go.RowKit
/-- what any pattern adds: its number, its state -/
def xV (X K : Nat) : Int := if X % 9223372036854775808 < 9218868437227405312 then tV (decide (9223372036854775808 ≤ X)) (X % 9223372036854775808) K else 0
theorem stadd_ (X K : Nat) (hK : K = 1074) (hX : X < 18446744073709551616) (b : Nat) (V : Int) (k : Nat) (s : Int) (hk : k < 4611686018427387904) (w : World) (h : St w b V k s) : Calls Tryz.prog 17 #[.pointer (some ⟨b, 0, none⟩), .float .f64 X] w fun e w' => (∃ v, e = .returned v) ∧ St w' b (V + xV X K) (k + 1) (jn s (xS X)) ∧ Kb b w w' := by
  obtain ⟨ws, h1, h2⟩ := h
  obtain ⟨n, m, hm, rfl⟩ := Fq.exD X hX
  obtain ⟨p1, p2⟩ := wD_parts n m hm
  have e1 : (k + 1) % 18446744073709551616 = k + 1 := Nat.mod_eq_of_lt (by omega)
  have e2 : ∀ S : Int, grS (k + 1) S = S := fun S => by unfold grS; rw [if_neg (by omega)]
  unfold xV xS
  rw [p1, p2]
  by_cases c : m < 9218868437227405312
  · rw [if_pos c, fin0 n m c]
    refine (add_ n m K hK c b ws V h1 k s w h2).mono ?_
    rintro e w' ⟨us, hv, hS, hR, g⟩
    rw [e1, e2] at hS
    exact ⟨hv, ⟨us, hR, hS⟩, g⟩
  · rw [if_neg c, Int.add_zero]
    refine (addX_ n m (by omega) hm b ws k s w h2).mono ?_
    rintro e w' ⟨hv, hS, g⟩
    rw [e1, e2] at hS
    exact ⟨hv, ⟨ws, h1, hS⟩, g⟩
theorem xV_le (X K : Nat) (hK : K = 1074) : (xV X K).natAbs ≤ tb K := by
  unfold xV
  by_cases c : X % 9223372036854775808 < 9218868437227405312
  · rw [if_pos c]; exact tV_le _ _ K hK c
  · rw [if_neg c]; simp
end Go.Proofs.YtokhnokobkmmkaaGreatDoor
namespace Go.Proofs.YtokhnokobkmmkaaGreatDoor
open Go.RowKit
theorem putS {w : World} {b : Nat} {ws : List Nat} {k : Nat} {s : Int} (h : Sb w b ws k s) (z : List Nat) (hz : z.length = 67) : (storeCells ⟨b, 0, none⟩ (wc z).toList 0).run Tryz.prog w = .ok () (w.setCells b 0 (wc z).toList) := by
  have := storeS h z hz
  have hi := infoW
  cases hq : Tryz.prog.info? 55 with
  | none => simp [hq] at hi
  | some i =>
    have hs : (wc z).size = i.size := by simp [hq] at hi; rw [wc_size, hz, hi]
    simpa [storeVar, sizeOf, typeInfo, hq, Value.cells, hs] using this
set_option maxRecDepth 20000 in
set_option maxHeartbeats 600000 in
theorem neg_ (b : Nat) (ws : List Nat) (V : Int) (hV : Rep ws V) (k : Nat) (s : Int) (hs1 : -5 ≤ s) (hs2 : s ≤ 5) (w : World) (hS : Sb w b ws k s) : Calls Tryz.prog 21 #[.pointer (some ⟨b, 0, none⟩)] w fun e w' => ∃ z, (∃ v, e = .returned v) ∧ Sb w' b z k (if s = 2 then 2 else -s) ∧ Rep z (-V) ∧ Kb b w w' := by
  have htu := turned_ ws V hV
  have hld := loadS hS
  by_cases c : s = 2
  · rw [if_pos c]
    subst c
    go_enter Tryz.func21, Tryz.ntmps21
    go_upto_region 0 with fail
    refine wp_region_list ?_
    refine wpl_val rfl _ rfl ?_
    refine wpl_val rfl _ rfl ?_
    refine wpl_val rfl _ rfl ?_
    refine wpl_field rfl _ _ _ rfl _ _ rfl (fa0 b _) ?_
    refine wpl_load rfl 55 _ rfl b 0 rfl _ hld ?_
    go_wp2_with (first | (go_at_call 46; refine (htu _).mono ?_; rintro e w1 ⟨z, rfl, hz, g1⟩; have h1 := hS.kp g1; have hst := putS h1 z hz.1; have hzs : (wc z).size = 67 := (by rw [wc_size, hz.1]); have h2 := h1.setW z hz.1; have c1 := h2.state; have f1 := h2.2.frozen 68; have kb : Kb b w (w1.setCells b 0 (wc z).toList) := Kb.cellsTo b _ 0 w w1 (Kb.of g1)))
    exact bodyPost_end (v := .tuple #[]) (by kernel_rfl) rfl (by first | exact ⟨⟨_, rfl⟩, z, h2, hz, kb⟩ | exact ⟨z, ⟨_, rfl⟩, h2, hz, kb⟩)
  · rw [if_neg c]
    have t2 : (s != 2) = true := by simpa using c
    have hw : wrap64 (-s) = -s := by unfold wrap64; omega
    clear hs1 hs2 c
    go_enter Tryz.func21, Tryz.ntmps21
    go_upto_region 0 with fail
    refine wp_region_list ?_
    refine wpl_val rfl _ rfl ?_
    refine wpl_val rfl _ rfl ?_
    refine wpl_val rfl _ rfl ?_
    refine wpl_field rfl _ _ _ rfl _ _ rfl (fa0 b _) ?_
    refine wpl_load rfl 55 _ rfl b 0 rfl _ hld ?_
    go_wp2_with (first | (go_at_call 46; refine (htu _).mono ?_; rintro e w1 ⟨z, rfl, hz, g1⟩; have h1 := hS.kp g1; have hst := putS h1 z hz.1; have hzs : (wc z).size = 67 := (by rw [wc_size, hz.1]); have h2 := h1.setW z hz.1; have c1 := h2.state; have f1 := h2.2.frozen 68; have kb : Kb b w (w1.setCells b 0 (wc z).toList) := Kb.cellsTo b _ 0 w w1 (Kb.of g1)))
    have h3 := h2.setState (-s)
    have k3 := kb.setCell 68 (.int .i64 (-s))
    exact bodyPost_end (v := .tuple #[]) (by kernel_rfl) rfl (by first | exact ⟨⟨_, rfl⟩, z, h3, hz, k3⟩ | exact ⟨z, ⟨_, rfl⟩, h3, hz, k3⟩)
end Go.Proofs.YtokhnokobkmmkaaGreatDoor
namespace Go.Proofs.YtokhnokobkmmkaaGreatDoor
open Go.RowKit
/-- a pattern, as one of a number -/
def nmP (X : Nat) : Nat := if X % 9223372036854775808 < 9218868437227405312 then X else X &&& 9227875636482146303
theorem nmP_fin (X : Nat) : nmP X % 9223372036854775808 < 9218868437227405312 := by
  unfold nmP
  by_cases c : X % 9223372036854775808 < 9218868437227405312
  · rw [if_pos c]; exact c
  · rw [if_neg c]
    have e : (X &&& 9227875636482146303) % 2 ^ 63 = X &&& 4503599627370495 := by
      rw [← Nat.and_two_pow_sub_one_eq_mod, Nat.and_assoc]; rfl
    have h : X &&& 4503599627370495 ≤ 4503599627370495 := Nat.and_le_right
    rw [show (2 : Nat) ^ 63 = 9223372036854775808 from by decide] at e
    omega
theorem nmP_lt (X : Nat) (h : X < 18446744073709551616) : nmP X < 18446744073709551616 := by
  unfold nmP
  by_cases c : X % 9223372036854775808 < 9218868437227405312
  · rw [if_pos c]; exact h
  · rw [if_neg c]
    have : X &&& 9227875636482146303 ≤ X := Nat.and_le_left
    omega
set_option maxRecDepth 20000 in
set_option maxHeartbeats 400000 in
theorem number4_ (X : Nat) (hX : X < 18446744073709551616) (w : World) : Calls Tryz.prog 19 #[.int .u64 (X : Int)] w fun e w' => e = .returned (.int .u64 ((nmP X : Nat) : Int)) ∧ w' = w := by
  have hf := fin4_ X hX
  unfold nmP
  by_cases c : X % 9223372036854775808 < 9218868437227405312
  · rw [if_pos c]
    rw [decide_eq_true c] at hf
    clear c hX
    go_enter Tryz.func19, Tryz.ntmps19
    go_wp2_with (first | (go_at_call 45; refine (hf _).mono ?_; rintro e w' ⟨rfl, hw'⟩; obtain rfl := hw'.symm; clear hw'))
    exact bodyPost_ret (v := .int .u64 (X : Int)) (by simp [results, Tryz.results19, go_sem]) rfl ⟨rfl, rfl⟩
  · rw [if_neg c]
    rw [decide_eq_false c] at hf
    have h1 := u64_andNot_nat X 9218868437227405312 hX (by decide)
    rw [show 18446744073709551615 - 9218868437227405312 = 9227875636482146303 from rfl, show (((9218868437227405312 : Nat) : Int)) = 9218868437227405312 from rfl] at h1
    generalize X &&& 9227875636482146303 = Z at *
    clear c hX
    go_enter Tryz.func19, Tryz.ntmps19
    go_wp2_with (first | (go_at_call 45; refine (hf _).mono ?_; rintro e w' ⟨rfl, hw'⟩; obtain rfl := hw'.symm; clear hw'))
    exact bodyPost_ret (v := .int .u64 (Z : Int)) (by simp [results, Tryz.results19, go_sem]) rfl ⟨rfl, rfl⟩
/-- what a term adds -/
def tkV (K X Y : Nat) (pr : Bool) : Int := if pr then yV X Y else xV X K
def tkS (X Y : Nat) (pr : Bool) : Int := if pr then yS X Y else xS X
theorem tkV_le (K : Nat) (hK : K = 1074) (X Y : Nat) (pr : Bool) : (tkV K X Y pr).natAbs ≤ tb K := by
  unfold tkV
  cases pr
  · exact xV_le X K hK
  · exact yV_le X Y K hK
theorem tkS_fin (X Y : Nat) (pr : Bool) (hX : X % 9223372036854775808 < 9218868437227405312) (hY : Y % 9223372036854775808 < 9218868437227405312) : tkS X Y pr = 0 := by
  unfold tkS
  cases pr
  · simp only [Bool.false_eq_true, if_false]; unfold xS tS; rw [if_neg (by omega), if_neg (by omega)]
  · simp only [if_true]; unfold yS; rw [if_pos ⟨hX, hY⟩]
set_option maxRecDepth 20000 in
set_option maxHeartbeats 1000000 in
theorem take4_ (X Y : Nat) (pr : Bool) (K : Nat) (hK : K = 1074) (hX : X < 18446744073709551616) (hY : Y < 18446744073709551616) (b : Nat) (V : Int) (k : Nat) (s : Int) (hk : k < 4611686018427387904) (w : World) (h : St w b V k s) : Calls Tryz.prog 20 #[.pointer (some ⟨b, 0, none⟩), .agg #[.int .u64 (X : Int), .int .u64 (Y : Int), .bool pr]] w fun e w' => (∃ v, e = .returned v) ∧ St w' b (V + tkV K X Y pr) (k + 1) (jn s (tkS X Y pr)) ∧ Kb b w w' := by
  have hfX := fl4_ X
  have hfY := fl4_ Y
  have hlt := h.lt
  have k0 : Kp w (w.alloc (.cells #[.int .u64 (X : Int), .int .u64 (Y : Int), .bool pr] 53)) := (Kp.refl w).alloc _
  have q0 : (w.alloc (.cells #[.int .u64 (X : Int), .int .u64 (Y : Int), .bool pr] 53)).cell? ⟨w.heap.size, 0, none⟩ = some (.int .u64 (X : Int)) := by simp [go_sem]
  have q1 : (w.alloc (.cells #[.int .u64 (X : Int), .int .u64 (Y : Int), .bool pr] 53)).cell? ⟨w.heap.size, 1, none⟩ = some (.int .u64 (Y : Int)) := by simp [go_sem]
  have q2 : (w.alloc (.cells #[.int .u64 (X : Int), .int .u64 (Y : Int), .bool pr] 53)).cell? ⟨w.heap.size, 2, none⟩ = some (.bool pr) := by simp [go_sem]
  have h1 := h.kp k0
  unfold tkV tkS
  cases pr
  · simp only [Bool.false_eq_true, if_false]
    have had := stadd_ X K hK hX b V k s hk _ h1
    clear hK hX hY hk h h1
    go_enter Tryz.func20, Tryz.ntmps20
    go_wp2_with (first | (go_at_call_of 18 (Value.int IntKind.u64 (X : Int)); refine (hfX _).mono ?_; rintro e w' ⟨rfl, hw'⟩; obtain rfl := hw'.symm; clear hw') | (go_at_call 17; refine had.mono ?_; rintro e w1 ⟨⟨v1, rfl⟩, hS1, kb1⟩))
    exact bodyPost_end (v := .tuple #[]) (by kernel_rfl) rfl ⟨⟨_, rfl⟩, hS1, (Kb.of k0).trans kb1⟩
  · simp only [if_true]
    have had := stmul_ X Y hX hY b V k s hk _ (show St (w.alloc (.cells #[.int .u64 (X : Int), .int .u64 (Y : Int), .bool true] 53)).drew b V k s from h1)
    clear hK hX hY hk h h1
    go_enter Tryz.func20, Tryz.ntmps20
    go_upto_region 2 with fail
    generalize w.alloc (.cells #[.int .u64 (X : Int), .int .u64 (Y : Int), .bool true] 53) = W0 at *
    have q0d : W0.drew.cell? ⟨w.heap.size, 0, none⟩ = some (.int .u64 (X : Int)) := q0
    have q1d : W0.drew.cell? ⟨w.heap.size, 1, none⟩ = some (.int .u64 (Y : Int)) := q1
    first | (go_region_with (first | (go_at_call_of 18 (Value.int IntKind.u64 (X : Int)); refine (hfX _).mono ?_; rintro e w' ⟨rfl, hw'⟩; obtain rfl := hw'.symm; clear hw') | (go_at_call_of 18 (Value.int IntKind.u64 (Y : Int)); refine (hfY _).mono ?_; rintro e w' ⟨rfl, hw'⟩; obtain rfl := hw'.symm; clear hw') | (go_at_call 37; refine had.mono ?_; rintro e w1 ⟨⟨v1, rfl⟩, hS1, kb1⟩))) | fail
    all_goals (
      go_wp2
      exact bodyPost_end (v := .tuple #[]) (by kernel_rfl) rfl ⟨⟨_, rfl⟩, hS1, (Kb.of k0).drew.trans kb1⟩)
end Go.Proofs.YtokhnokobkmmkaaGreatDoor
namespace Go.Proofs.YtokhnokobkmmkaaGreatDoor
open Go.RowKit
theorem rg_vV (m : Nat) (_h : m < 9218868437227405312) : rgU 53 (Fq.vV Ieee.double m) = m := by
  by_cases z : m = 0
  · subst z; rw [(vV_zero 0).2 rfl, rgU_zero]
  · unfold Fq.vV Fq.mM Fq.eE
    rw [Fq.binD]
    by_cases c : m < 4503599627370496
    · rw [if_pos c, if_pos c, Nat.pow_zero, Nat.mul_one]
      unfold rgU
      have hb : blen m ≤ 52 := by rw [blen_le_iff, show (2 : Nat) ^ 52 = 4503599627370496 from by decide]; exact c
      rw [show blen m - 53 = 0 from by omega]; simp
    · rw [if_neg c, if_neg c]
      have hb : blen (4503599627370496 + m % 4503599627370496) = 53 := blen_uniq _ 52 (by rw [show (2 : Nat) ^ 52 = 4503599627370496 from by decide]; omega) (by rw [show (2 : Nat) ^ (52 + 1) = 9007199254740992 from by decide]; omega)
      rw [rgU_mul 53 _ _ 0 (by omega) (by rw [hb]; simp) (by omega), Nat.pow_zero, Nat.mul_one, show (2 : Nat) ^ (53 - 1) = 4503599627370496 from by decide]
      omega
theorem rU_fl (d : Int) (A : Nat) (hA : FL (A : Int)) : rU d 53 A 1 = A := by
  obtain ⟨E, hE⟩ : ∃ E, E = rE 53 A 1 := ⟨_, rfl⟩
  obtain ⟨q, hq⟩ : ∃ q, q = rS 53 A 1 := ⟨_, rfl⟩
  obtain ⟨r, hr⟩ : ∃ r, r = rR 53 A 1 := ⟨_, rfl⟩
  obtain ⟨T, hT⟩ : ∃ T, T = 2 ^ E := ⟨_, rfl⟩
  have hTp : 0 < T := by rw [hT]; exact Nat.two_pow_pos E
  have hAq : A = q * T + r := by
    rw [hq, hr, hT, hE]; unfold rS rR; rw [Nat.one_mul, Nat.mul_comm]; exact (Nat.div_add_mod _ _).symm
  have hrl : r < T := by rw [hr, hT, hE]; unfold rR; rw [Nat.one_mul]; exact Nat.mod_lt _ (Nat.two_pow_pos _)
  have hfix := (rn_nr A).fix hA
  have h0 := rung_of A 0 E (q + (upw 0 q r T).toNat) hE (by rw [hq, hr, hT, hE, Nat.one_mul])
  rw [← hT] at h0
  have hr0 : r = 0 := by
    have e1 : (q + (upw 0 q r T).toNat) * T = q * T + r := by rw [← h0.1]; omega
    rw [Nat.add_mul] at e1
    cases hu : upw 0 q r T
    · rw [hu] at e1; simp at e1; omega
    · rw [hu] at e1; simp at e1; omega
  have hd := rung_of A d E (q + (upw d q r T).toNat) hE (by rw [hq, hr, hT, hE, Nat.one_mul])
  rw [← hT, hr0, upw_none _ _ _ hTp] at hd
  rw [hd.1, hAq, hr0]; simp
theorem fin_self (dd : Int) (m : Nat) (hm : m < 9218868437227405312) : finU 53 2098 9218868437227405311 9218868437227405312 dd (Fq.vV Ieee.double m) = m := by
  have hbl : blen (Fq.vV Ieee.double m) ≤ 2098 := by
    obtain ⟨K, hK⟩ : ∃ K : Nat, K = 2098 := ⟨_, rfl⟩
    rw [← hK, blen_le_iff]
    unfold Fq.vV Fq.mM Fq.eE
    rw [Fq.binD]
    by_cases c : m < 4503599627370496
    · rw [if_pos c, if_pos c, Nat.pow_zero, Nat.mul_one]
      refine Nat.lt_of_lt_of_le c ?_
      rw [show (4503599627370496 : Nat) = 2 ^ 52 from by decide]
      exact Nat.pow_le_pow_right (by decide) (by omega)
    · rw [if_neg c, if_neg c]
      have h1 : (4503599627370496 + m % 4503599627370496) * 2 ^ (m / 4503599627370496 - 1) < 9007199254740992 * 2 ^ (m / 4503599627370496 - 1) := Nat.mul_lt_mul_of_pos_right (by omega) (Nat.two_pow_pos _)
      refine Nat.lt_of_lt_of_le h1 ?_
      rw [show (9007199254740992 : Nat) = 2 ^ 53 from by decide, ← Nat.pow_add]
      exact Nat.pow_le_pow_right (by decide) (by omega)
  unfold finU
  rw [if_pos hbl, rg_vV m hm]
/-- a number, rounded, is itself (a nought is 0) -/
theorem fma_self (d : Int) (n : Bool) (m K : Nat) (hK : K = 1074) (hm : m < 9218868437227405312) : fmaW d (tV n m K) = if m = 0 then 0 else Fq.wD n m := by
  rw [← sum_fma d (Iv n m) (tV n m K) K hK rfl]
  unfold sumW
  have hz := vV_zero m
  have hfl : FL ((Fq.vV Ieee.double m : Nat) : Int) := by
    have h := iv_fl false m
    unfold Iv at h
    simpa using h
  by_cases z : m = 0
  · have : Iv n m = 0 := by unfold Iv; rw [hz.2 z]; cases n <;> simp
    rw [if_pos z, if_pos this]
  · have hv : Fq.vV Ieee.double m ≠ 0 := fun h => z (hz.1 h)
    have hI : Iv n m ≠ 0 := by unfold Iv; cases n <;> simp <;> omega
    have e1 : decide (Iv n m < 0) = n := by unfold Iv; cases n <;> simp <;> omega
    have e2 : (Iv n m).natAbs = Fq.vV Ieee.double m := by unfold Iv; cases n <;> simp
    rw [if_neg hI, if_neg z, e1, e2, rU_fl _ _ hfl, fin_self _ m hm]
    unfold mdW Fq.wD
    rw [if_neg z]
theorem fma_pair (d V : Int) : ∃ (na nb : Bool) (R : Nat), R ≤ 9218868437227405312 ∧ fmaW d V = Fq.wD na R ∧ fmaW (-d) (-V) = Fq.wD nb R ∧ ((R = 0 ∧ na = false ∧ nb = false) ∨ (R ≠ 0 ∧ nb = !na)) := by
  unfold fmaW
  by_cases z : V = 0
  · refine ⟨false, false, 0, by decide, ?_, ?_, Or.inl ⟨rfl, rfl, rfl⟩⟩
    · rw [if_pos z]; rfl
    · rw [if_pos (by omega)]; rfl
  · rw [if_neg z, if_neg (by omega)]
    have e1 : decide (-V < 0) = !decide (V < 0) := by
      by_cases c : V < 0
      · rw [decide_eq_true c, decide_eq_false (by omega)]; rfl
      · rw [decide_eq_false c, decide_eq_true (by omega)]; rfl
    have e2 : (-V).natAbs = V.natAbs := Int.natAbs_neg V
    have e3 : ∀ n : Bool, dirN (!n) (-d) = dirN n d := fun n => by unfold dirN; cases n <;> simp
    rw [e1, e2, e3]
    have hR := fin_leD (dirN (decide (V < 0)) d) (rV (dirN (decide (V < 0)) d) 53 V.natAbs 1 (-1074))
    generalize finU 53 2098 9218868437227405311 9218868437227405312 (dirN (decide (V < 0)) d) (rV (dirN (decide (V < 0)) d) 53 V.natAbs 1 (-1074)) = R at *
    generalize decide (V < 0) = n at *
    by_cases r : R = 0
    · exact ⟨false, false, 0, by decide, by unfold mdW; rw [if_pos r]; rfl, by unfold mdW; rw [if_pos r]; rfl, Or.inl ⟨rfl, rfl, rfl⟩⟩
    · refine ⟨n, !n, R, hR, ?_, ?_, Or.inr ⟨r, rfl⟩⟩
      · unfold mdW Fq.wD; rw [if_neg r]
      · unfold mdW Fq.wD; rw [if_neg r]
theorem flip4 (n : Bool) (m : Nat) (hm : m < 9223372036854775808) : Fq.wD n m ^^^ 9223372036854775808 = Fq.wD (!n) m := by
  obtain ⟨x, hx⟩ : ∃ x, x = Fq.wD n m := ⟨_, rfl⟩
  have h1 : (x ^^^ 9223372036854775808) % 2 ^ 63 = x % 2 ^ 63 := by
    rw [Nat.xor_mod_two_pow, show (9223372036854775808 : Nat) % 2 ^ 63 = 0 from by decide, Nat.xor_zero]
  have h2 : (x ^^^ 9223372036854775808) / 2 ^ 63 = x / 2 ^ 63 ^^^ 1 := by
    rw [← Nat.shiftRight_eq_div_pow, ← Nat.shiftRight_eq_div_pow, Nat.shiftRight_xor_distrib, show (9223372036854775808 : Nat) >>> 63 = 1 from by decide]
  rw [show (2 : Nat) ^ 63 = 9223372036854775808 from by decide] at h1 h2
  rw [← hx]
  generalize hz : x ^^^ 9223372036854775808 = z at h1 h2 ⊢
  clear hz
  cases n
  · have e : x = m := by rw [hx]; unfold Fq.wD; simp
    rw [e, Nat.div_eq_of_lt hm, show (0 : Nat) ^^^ 1 = 1 from by decide] at h2
    rw [e, Nat.mod_eq_of_lt hm] at h1
    unfold Fq.wD
    simp
    omega
  · have e : x = 9223372036854775808 + m := by rw [hx]; unfold Fq.wD; simp
    have e2 : x / 9223372036854775808 = 1 := by omega
    have e3 : x % 9223372036854775808 = m := by omega
    rw [e2, show (1 : Nat) ^^^ 1 = 0 from by decide] at h2
    rw [e3] at h1
    unfold Fq.wD
    simp
    omega
theorem neg4W (n : Bool) (m : Nat) (hm : m < 9223372036854775808) (w : World) : (Op.unary .neg (.float .f64 (Fq.wD n m))).run Tryz.prog w = .ok (.float .f64 (Fq.wD (!n) m)) w := by
  have h : Op.negFloat .f64 (Fq.wD n m) = Fq.wD (!n) m := by
    unfold Op.negFloat
    exact flip4 n m hm
  rw [← h]; rfl
/-- a and minus b are one number -/
theorem pair_ord (na nb : Bool) (R : Nat) (hR : R ≤ 9218868437227405312) (h : (R = 0 ∧ na = false ∧ nb = false) ∨ (R ≠ 0 ∧ nb = !na)) : (FloatKind.f64.format.order (Fq.wD na R) (Fq.wD (!nb) R) != some .eq) = false := by
  have e : Fq.plz na R = Fq.plz (!nb) R := by
    rcases h with ⟨rfl, rfl, rfl⟩ | ⟨_, rfl⟩
    · rfl
    · simp
  rw [Fq.ordD na (!nb) R R hR hR, Fq.cmp_eq e]; rfl
theorem pair_top (na nb : Bool) (R : Nat) (hR : R ≤ 9218868437227405312) (h : (R = 0 ∧ na = false ∧ nb = false) ∨ (R ≠ 0 ∧ nb = !na)) : Fq.wD na R ≠ 9223372036854775808 ∧ Fq.wD nb R ≠ 9223372036854775808 := by
  unfold Fq.wD
  rcases h with ⟨rfl, rfl, rfl⟩ | ⟨r, rfl⟩
  · decide
  · cases na <;> simp <;> omega
theorem sg_neg (V : Int) : sgV (-V) = -(sgV V) := by
  unfold sgV
  by_cases a : V < 0
  · rw [if_pos a, if_neg (by omega), if_neg (by omega)]; rfl
  · rw [if_neg a]
    by_cases b : V = 0
    · subst b; rfl
    · rw [if_neg b, if_pos (by omega)]
theorem sg_cases (V : Int) : sgV V = -1 ∨ sgV V = 0 ∨ sgV V = 1 := by
  unfold sgV
  by_cases a : V < 0
  · rw [if_pos a]; omega
  · rw [if_neg a]
    by_cases b : V = 0
    · rw [if_pos b]; omega
    · rw [if_neg b]; omega
/-- turned terms take away -/
theorem xV_neg (X K : Nat) (hX : X < 18446744073709551616) : xV (tX X) K = -(xV X K) := by
  obtain ⟨n, m, hm, rfl⟩ := Fq.exD X hX
  unfold tX
  rw [flip4 n m hm]
  unfold xV
  rw [(wD_parts n m hm).1, (wD_parts n m hm).2, (wD_parts (!n) m hm).1, (wD_parts (!n) m hm).2]
  by_cases c : m < 9218868437227405312
  · rw [if_pos c, if_pos c]
    unfold tV Iv
    cases n <;> simp [Int.neg_mul]
  · rw [if_neg c, if_neg c]; rfl
theorem yV_neg (X Y : Nat) (hX : X < 18446744073709551616) : yV (tX X) Y = -(yV X Y) := by
  obtain ⟨n, m, hm, rfl⟩ := Fq.exD X hX
  unfold tX
  rw [flip4 n m hm]
  unfold yV
  rw [(wD_parts n m hm).1, (wD_parts n m hm).2, (wD_parts (!n) m hm).1, (wD_parts (!n) m hm).2]
  by_cases c : m < 9218868437227405312 ∧ Y % 9223372036854775808 < 9218868437227405312
  · rw [if_pos c, if_pos c]
    have e : Iv (!n) m = -(Iv n m) := by unfold Iv; cases n <;> simp
    rw [e, Int.neg_mul]
  · rw [if_neg c, if_neg c]; rfl
theorem tkV_neg (K X Y : Nat) (pr : Bool) (hX : X < 18446744073709551616) : tkV K (tX X) Y pr = -(tkV K X Y pr) := by
  unfold tkV
  cases pr
  · exact xV_neg X K hX
  · exact yV_neg X Y hX
theorem tX_fin (X : Nat) (hX : X < 18446744073709551616) (h : X % 9223372036854775808 < 9218868437227405312) : tX X % 9223372036854775808 < 9218868437227405312 := by
  obtain ⟨n, m, hm, rfl⟩ := Fq.exD X hX
  unfold tX
  rw [flip4 n m hm, (wD_parts (!n) m hm).1]
  rw [(wD_parts n m hm).1] at h
  exact h
end Go.Proofs.YtokhnokobkmmkaaGreatDoor
namespace Go.Proofs.YtokhnokobkmmkaaGreatDoor
open Go.RowKit
set_option maxRecDepth 20000 in
set_option maxHeartbeats 400000 in
theorem plain4_ (n : Bool) (m : Nat) (hm : m < 9218868437227405312) (w : World) : Calls Tryz.prog 25 #[.int .u64 ((Fq.wD n m : Nat) : Int)] w fun e w' => e = .returned (.int .u64 (((if m = 0 then 0 else Fq.wD n m) : Nat) : Int)) ∧ w' = w := by
  have hin := isnan_ n m (by omega)
  rw [decide_eq_false (by omega)] at hin
  by_cases c0 : m = 0
  · subst c0
    rw [if_pos rfl]
    cases n
    · have e : ((Fq.wD false 0 : Nat) : Int) = 0 := rfl
      rw [e] at hin ⊢
      clear e hm
      go_enter Tryz.func25, Tryz.ntmps25
      go_wp2_with (first | (go_at_call 51; refine (hin _).mono ?_; rintro e w' ⟨rfl, hw'⟩; obtain rfl := hw'.symm; clear hw'))
      exact bodyPost_ret (v := .int .u64 0) (by simp [results, Tryz.results25, go_sem]) rfl ⟨rfl, rfl⟩
    · have e : ((Fq.wD true 0 : Nat) : Int) = 9223372036854775808 := rfl
      rw [e]
      clear e hm hin
      go_enter Tryz.func25, Tryz.ntmps25
      go_wp2
      exact bodyPost_ret (v := .int .u64 0) (by simp [results, Tryz.results25, go_sem]) rfl ⟨rfl, rfl⟩
  · rw [if_neg c0]
    have t : ¬ (((Fq.wD n m : Nat) : Int) = 9223372036854775808) := by unfold Fq.wD; cases n <;> simp <;> omega
    generalize ((Fq.wD n m : Nat) : Int) = X at *
    clear c0 hm
    go_enter Tryz.func25, Tryz.ntmps25
    go_wp2_with (first | (go_at_call 51; refine (hin _).mono ?_; rintro e w' ⟨rfl, hw'⟩; obtain rfl := hw'.symm; clear hw'))
    exact bodyPost_ret (v := .int .u64 X) (by simp [results, Tryz.results25, go_sem]) rfl ⟨rfl, rfl⟩
abbrev Tm : Type := Nat × Nat × Bool
/-- a list of terms -/
def ArrT (w : World) (p : Option Addr) (L : List Tm) : Prop := L = [] ∨ ∃ b off, p = some ⟨b, off, none⟩ ∧ ∀ j, j < L.length → w.cell? ⟨b, off + j * 3, none⟩ = some (.int .u64 (((L.getD j (0, 0, false)).1 : Nat) : Int)) ∧ w.cell? ⟨b, off + j * 3 + 1, none⟩ = some (.int .u64 (((L.getD j (0, 0, false)).2.1 : Nat) : Int)) ∧ w.cell? ⟨b, off + j * 3 + 2, none⟩ = some (.bool (L.getD j (0, 0, false)).2.2)
def TmOk (L : List Tm) : Prop := ∀ j, j < L.length → (L.getD j (0, 0, false)).1 < 18446744073709551616 ∧ (L.getD j (0, 0, false)).2.1 < 18446744073709551616
/-- what the terms, as numbers, add -/
def tnV (K : Nat) (t : Tm) : Int := tkV K (nmP t.1) (nmP t.2.1) t.2.2
def tsV (K : Nat) : List Tm → Int
  | [] => 0
  | t :: L => tnV K t + tsV K L
theorem tsV_take (K : Nat) (L : List Tm) : ∀ i, i < L.length → tsV K (L.take (i + 1)) = tsV K (L.take i) + tnV K (L.getD i (0, 0, false)) := by
  induction L with
  | nil => intro i h; simp at h
  | cons x xs ih =>
    intro i h
    cases i with
    | zero => simp [tsV]
    | succ i =>
      have e := ih i (by simpa using h)
      simp only [List.take_succ_cons, tsV, List.getD_cons_succ] at e ⊢
      rw [e]; omega
theorem ftake4_ (X Y : Nat) (pr : Bool) (K : Nat) (hK : K = 1074) (hX : X < 18446744073709551616) (hY : Y < 18446744073709551616) (fX : X % 9223372036854775808 < 9218868437227405312) (fY : Y % 9223372036854775808 < 9218868437227405312) (b : Nat) (V : Int) (k : Nat) (hk : k < 4611686018427387904) (w : World) (h : Fs w b V k K) : Calls Tryz.prog 20 #[.pointer (some ⟨b, 0, none⟩), .agg #[.int .u64 (X : Int), .int .u64 (Y : Int), .bool pr]] w fun e w' => (∃ v, e = .returned v) ∧ Fs w' b (V + tkV K X Y pr) (k + 1) K ∧ Kb b w w' := by
  obtain ⟨ws, h1, h2, h3, h4⟩ := h
  refine (take4_ X Y pr K hK hX hY b V k 0 hk w ⟨ws, h1, h2⟩).mono ?_
  rintro e w' ⟨hv, ⟨ws', q1, q2⟩, q3⟩
  rw [tkS_fin X Y pr fX fY] at q2
  refine ⟨hv, ⟨ws', q1, q2, by omega, Fs.grow k V _ K h4 (tkV_le K hK X Y pr)⟩, q3⟩
theorem sumcells (ws : List Nat) (h : ws.length = 67) (k : Nat) (s : Int) : (wc ws ++ #[Value.int .u64 (k : Int), Value.int .i64 s]).size = 69 := by rw [Array.size_append, wc_size, h]; rfl
theorem sumone (ws : List Nat) (k : Nat) (s : Int) : (wc ws ++ #[Value.int .u64 (k : Int), Value.int .i64 s]).all (·.oneCell') = true := by
  rw [Array.all_append, wc_one]; simp [Value.oneCell']
end Go.Proofs.YtokhnokobkmmkaaGreatDoor
namespace Go.Proofs.YtokhnokobkmmkaaGreatDoor
open Go.RowKit
set_option maxRecDepth 20000 in
set_option maxHeartbeats 8000000 in
theorem tcancelsB_ (K : Nat) (hK : K = 1074) (p : Option Addr) (c : Nat) (L : List Tm) (hok : TmOk L) (h3 : ¬ 3000 < L.length) (x : Nat) (hx : x < 18446744073709551616) (w : World) (ha : ArrT w p L) (hT : Tab w) (hQ : Fq.Tab w) : Calls Tryz.prog 5 #[.slice p L.length c, .int .u64 (x : Int)] w fun e w' => e = .returned (.bool true) ∧ Kp w w' := by
  have hfin := nmP_fin x
  have hnl := nmP_lt x hx
  have hnx := number4_ x hx
  obtain ⟨n0, m0, hm0, hn0⟩ := Fq.exD (nmP x) hnl
  rw [hn0, (wD_parts n0 m0 hm0).1] at hfin
  clear hm0 hnl
  have hm0 := hfin
  rw [hn0] at hnx
  clear hn0
  have hflx := fl4_ (Fq.wD n0 m0)
  have hadx := fun (b : Nat) (W : World) (h : Fs W b 0 0 K) => fadd_ n0 m0 hm0 K hK b 0 0 (by decide) W h
  have hlv := lives_ w hT hQ
  obtain ⟨N, hN⟩ : ∃ N, N = L.length := ⟨_, rfl⟩
  rw [← hN] at h3 ⊢
  have j9 : ¬ ((3000 : Int) < (N : Int)) := by omega
  have HN0 : Hid (N = L.length ∧ ArrT w p L ∧ TmOk L ∧ K = 1074 ∧ Tab w ∧ Fq.Tab w ∧ m0 < 9218868437227405312 ∧ N ≤ N ∧ N ≤ 3000) := ⟨hN, ha, hok, hK, hT, hQ, hm0, by omega, by omega⟩
  clear hN ha hok hK hT hQ hm0 h3 hx hfin
  go_enter Tryz.func5, Tryz.ntmps5
  go_wp2_with fail
  refine hlv.mono ?_
  rintro e wa ⟨rfl, ga⟩
  go_wp2_with fail
  refine (fnew_ K _).mono ?_
  rintro e wb ⟨rfl, F0, gb⟩
  have hk : Kp w wb := ga.trans gb
  have hz : w.heap.size ≤ wa.heap.size := ga.size
  clear ga gb hlv
  generalize wa.heap.size = bs at *
  go_wp2_with fail
  refine (hnx _).mono ?_; rintro e w' ⟨rfl, hw'⟩; obtain rfl := hw'.symm; clear hw'
  go_wp2_with fail
  refine (hflx _).mono ?_; rintro e w' ⟨rfl, hw'⟩; obtain rfl := hw'.symm; clear hw'
  go_wp2_with fail
  refine (hadx bs _ F0).mono ?_
  rintro e wc_ ⟨⟨vc, rfl⟩, F1, kb⟩
  have hk2 := kb.kp hk hz
  clear kb hk F0 hadx hflx
  obtain ⟨hN, ha, hok, hK, hT, hQ, hm0, hkN, hk3⟩ := HN0.out
  have HN : Hid (N = L.length ∧ ArrT w p L ∧ TmOk L ∧ w.heap.size ≤ bs ∧ N ≤ N ∧ K = 1074) := ⟨hN, ha, hok, hz, hkN, hK⟩
  have HS : Hid (Fs wc_ bs (tV n0 m0 K + tsV K (L.take 0)) (0 + 1) K ∧ Kp w wc_) := ⟨by simpa [tsV] using F1, hk2⟩
  clear HN0 hN ha hok hK hkN F1 hk2 hz
  have hfin := trivial
  go_wp2_with fail
  go_loopw [7] (fun ii wr => ∃ i : Nat, ii = .int .i64 (i : Int) ∧ i ≤ N ∧ Fs wr bs (tV n0 m0 K + tsV K (L.take i)) (i + 1) K ∧ Kp w wr) (fun i _ => N - (intOf i).toNat)
  case atStart => exact ⟨0, rfl, Nat.zero_le _, HS.out.1, HS.out.2⟩
  case round =>
    obtain ⟨i, rfl, hi, hF, hk⟩ := hrel
    clear HS
    obtain ⟨hN, ha, hok, hz, hkN, hK⟩ := HN.out
    by_cases ci : i < N
    · obtain ⟨oX, oY⟩ := hok i (by omega)
      have hts := tsV_take K L i (by omega)
      rcases ha with ha | ⟨bl, off, rfl, ha⟩
      · rw [ha] at hN; simp at hN; omega
      obtain ⟨e0, e1, e2⟩ := ha i (by omega)
      have hbb : bl ≠ bs := by have := cell_lt e0; omega
      have e0 := kkeep hk e0
      have e1 := kkeep hk e1
      have e2 := kkeep hk e2
      obtain ⟨X, hX⟩ : ∃ X, X = (L.getD i (0, 0, false)).1 := ⟨_, rfl⟩
      obtain ⟨Y, hY⟩ : ∃ Y, Y = (L.getD i (0, 0, false)).2.1 := ⟨_, rfl⟩
      obtain ⟨pr, hpr⟩ : ∃ pr, pr = (L.getD i (0, 0, false)).2.2 := ⟨_, rfl⟩
      unfold tnV at hts
      rw [← hX] at e0 oX hts
      rw [← hY] at e1 oY hts
      rw [← hpr] at e2 hts
      have hnX := number4_ X oX
      have hnY := number4_ Y oY
      have htk := ftake4_ (nmP X) (nmP Y) pr K hK (nmP_lt X oX) (nmP_lt Y oY) (nmP_fin X) (nmP_fin Y) bs _ (i + 1) (by omega) wr.drew (show Fs wr.drew bs _ _ _ from hF)
      have hVV : tV n0 m0 K + tsV K (L.take i) + tkV K (nmP X) (nmP Y) pr = tV n0 m0 K + tsV K (L.take (i + 1)) := by rw [hts]; omega
      rw [hVV] at htk
      have hxt := xor_top (nmP X) (nmP_lt X oX)
      have j1 : (i : Int) < (N : Int) := by omega
      have j2 : i + 1 ≤ N := by omega
      have j3 : N - (i + 1) < N - i := by omega
      have j4 : i < N := by omega
      have j5 : (i : Int) < (N : Int) := by omega
      have e0 : wr.drew.cell? ⟨bl, off + i * 3, none⟩ = some (.int .u64 (X : Int)) := e0
      have e1 : wr.drew.cell? ⟨bl, off + i * 3 + 1, none⟩ = some (.int .u64 (Y : Int)) := e1
      have e2 : wr.drew.cell? ⟨bl, off + i * 3 + 2, none⟩ = some (.bool pr) := e2
      have HK : Hid (Kp w wr.drew ∧ w.heap.size ≤ bs) := ⟨hk.drew, hz⟩
      obtain ⟨NX, hNX⟩ : ∃ NX, NX = nmP X := ⟨_, rfl⟩
      obtain ⟨NY, hNY⟩ : ∃ NY, NY = nmP Y := ⟨_, rfl⟩
      rw [← hNX] at hnX htk hxt
      rw [← hNY] at hnY htk
      clear hN ha hok hz hkN hK HN hi oX oY hts hX hY hpr hF hVV ci hk hNX hNY hfin
      go_upto_region 11 with fail
      go_region_held3 (fun w' => w'.cell? ⟨bl, off + i * 3, none⟩ = some (.int .u64 (X : Int)) ∧ w'.cell? ⟨bl, off + i * 3 + 1, none⟩ = some (.int .u64 (Y : Int)) ∧ w'.cell? ⟨bl, off + i * 3 + 2, none⟩ = some (.bool pr)) (first | (with_reducible exact ⟨e0, e1, e2⟩) | (with_reducible exact ⟨f0, f1, f2⟩)) (first | (go_at_call_of 19 (Value.int IntKind.u64 (X : Int)); refine (hnX _).mono ?_; rintro e w' ⟨rfl, hw'⟩; obtain rfl := hw'.symm; clear hw') | (go_at_call_of 19 (Value.int IntKind.u64 (Y : Int)); refine (hnY _).mono ?_; rintro e w' ⟨rfl, hw'⟩; obtain rfl := hw'.symm; clear hw') | (go_at_call 20; refine htk.mono ?_; rintro e w1 ⟨⟨v1, rfl⟩, F1, kb1⟩; have f0 := kb1.arr hbb e0; have f1 := kb1.arr hbb e1; have f2 := kb1.arr hbb e2))
      all_goals (
        go_wp2
        exact ⟨⟨i + 1, by go_num, j2, F1, kb1.kp HK.out.1 HK.out.2⟩, (show N - (i + 1) < N - i from j3)⟩)
    · have hik : i = N := by omega
      have t1 : ¬ ((i : Int) < (N : Int)) := by omega
      rw [hik] at hF
      clear hi ci hik
      have hV1 : tV n0 m0 K + tsV K (L.take N) = tV n0 m0 K + tsV K (L.take N) := rfl
      obtain ⟨ws, hRp, hSb, hk9, hle9⟩ := hF
      have hcs := sumcells ws hSb.1 (N + 1) 0
      have hco := sumone ws (N + 1) 0
      have hld := run_loadVar_row (P := Tryz.prog) wr bs 57 57 _ (0, 0) _ hSb.2 Tryz.underlying57 rfl (by rw [hcs]; exact infoS)
      have hsv := fun (W : World) => run_storeCells_new (P := Tryz.prog) W 57 (wc (List.replicate 67 0) ++ #[Value.int .u64 0, Value.int .i64 0]) _ (by rw [hcs]; exact infoS) (by rw [hcs]; exact sumcells _ List.length_replicate 0 0) hco
      have hzz := zeroS
      generalize wc (List.replicate 67 0) ++ #[Value.int .u64 0, Value.int .i64 0] = ZC at *
      obtain ⟨CC, hCC⟩ : ∃ CC, CC = wc ws ++ #[Value.int .u64 (((N + 1 : Nat)) : Int), Value.int .i64 0] := ⟨_, rfl⟩
      rw [← hCC] at hcs hco hld hsv
      have hbt : Sb (wr.alloc (.cells CC 57)) wr.heap.size ws (N + 1) 0 := ⟨hSb.1, by rw [hCC]; exact Bk.new _ _ _⟩
      have hng := neg_ wr.heap.size ws (tV n0 m0 K + tsV K (L.take N)) hRp (N + 1) 0 (by decide) (by decide) (wr.alloc (.cells CC 57)) hbt
      have hlt := hSb.2.lt
      have hFs : Fs (wr.alloc (.cells CC 57)) bs (tV n0 m0 K + tsV K (L.take N)) (N + 1) K := Fs.kp ⟨ws, hRp, hSb, hk9, hle9⟩ ((Kp.refl _).alloc _)
      have HM : Hid (Fs (wr.alloc (.cells CC 57)) bs (tV n0 m0 K + tsV K (L.take N)) (N + 1) K ∧ Kp w (wr.alloc (.cells CC 57)) ∧ bs < wr.heap.size ∧ w.heap.size ≤ wr.heap.size ∧ (tV n0 m0 K + tsV K (L.take N)).natAbs ≤ (N + 1) * tb K) := ⟨hFs, hk.alloc _, hlt, hk.size, hle9⟩
      have HN2 : Hid (N = L.length ∧ ArrT w p L ∧ TmOk L ∧ w.heap.size ≤ bs ∧ N ≤ N ∧ K = 1074) := HN.out
      have HT2 : Hid (Tab w ∧ Fq.Tab w ∧ m0 < 9218868437227405312) := ⟨hT, hQ, hm0⟩
      clear hN ha hok hz hkN hK HN hRp hSb hk9 hle9 hCC hbt hlt hFs hk hV1 hT hQ hm0 hfin
      go_upto_region 12 with fail
      refine wp_region_list ?_
      refine wpl_val rfl _ rfl ?_
      refine wpl_val rfl _ rfl ?_
      refine wpl_load rfl 57 _ rfl bs 0 rfl _ hld ?_
      go_wp2_with fail
      refine hng.mono ?_
      rintro e w1 ⟨z, ⟨v1, rfl⟩, hSz, hRz, kb1⟩
      obtain ⟨hFs, hk, hlt, hsz, hle9⟩ := HM.out
      replace hFs := hFs.kb kb1 (by omega)
      replace hk := kb1.kp hk hsz
      have hFt : Fs w1 wr.heap.size (-(tV n0 m0 K + tsV K (L.take N))) (N + 1) K := ⟨z, hRz, hSz, by omega, by rw [Int.natAbs_neg]; exact hle9⟩
      generalize wr.heap.size = bt at *
      clear HM kb1 hSz hRz hng hld hsv hzz hcs hco
      have HL : Hid (Fs w1 bs (tV n0 m0 K + tsV K (L.take N)) (N + 1) K ∧ Fs w1 bt (-(tV n0 m0 K + tsV K (L.take N))) (N + 1) K ∧ Kp w w1) := ⟨hFs, hFt, hk⟩
      clear hFs hFt hk hle9
      go_wp2_with fail
      go_loopw [9, 10, 11] (fun dd aa bb wq => ∃ d : Int, dd = .int .i64 d ∧ -1 ≤ d ∧ d ≤ 2 ∧ Fs wq bs (tV n0 m0 K + tsV K (L.take N)) (N + 1) K ∧ Fs wq bt (-(tV n0 m0 K + tsV K (L.take N))) (N + 1) K ∧ Kp w wq) (fun dd _ _ _ => (2 - intOf dd).toNat)
      case atStart => exact ⟨-1, rfl, by decide, by decide, HL.out.1, HL.out.2.1, HL.out.2.2⟩
      case round =>
        obtain ⟨d, rfl, hd1, hd2, hF, hG, hk⟩ := hrel
        clear HL
        by_cases cd : d ≤ 1
        · obtain ⟨hT, hQ, hm0⟩ := HT2.out
          obtain ⟨hN, ha, hok, hz, hkN, hK⟩ := HN2.out
          obtain ⟨na, nbb, R, hR, hA, hB, hrel⟩ := fma_pair d (tV n0 m0 K + tsV K (L.take N))
          have hr1 := fround_ d (by omega) (by omega) K hK bs _ _ _ hF (hT.grown hk) (Fq.Tab.grown hQ hk)
          rw [hA] at hr1
          have hb1 := fun w => bits4_ _ (ordfma4 d (tV n0 m0 K + tsV K (L.take N))) w
          rw [hA] at hb1
          have hb2 := fun w => bits4_ _ (ordfma4 (-d) (-(tV n0 m0 K + tsV K (L.take N)))) w
          rw [hB] at hb2
          have hnw := neg4W nbb R (by omega)
          have hor := pair_ord na nbb R hR hrel
          obtain ⟨ht1, ht2⟩ := pair_top na nbb R hR hrel
          have ht1 : ((((Fq.wD na R : Nat) : Int)) == 9223372036854775808) = false := beq_eq_false_iff_ne.2 (by omega)
          have ht2 : ((((Fq.wD nbb R : Nat) : Int)) == 9223372036854775808) = false := beq_eq_false_iff_ne.2 (by omega)
          have hwd : IntKind.i64.wrap (-d) = -d := by rw [IntKind.wrap_i64]; omega
          have HR : Hid (fmaW (-d) (-(tV n0 m0 K + tsV K (L.take N))) = Fq.wD nbb R) := hB
          have HX : Hid (Fs wr bs (tV n0 m0 K + tsV K (L.take N)) (N + 1) K ∧ Fs wr bt (-(tV n0 m0 K + tsV K (L.take N))) (N + 1) K ∧ Kp w wr ∧ -1 ≤ d ∧ d ≤ 1) := ⟨hF, hG, hk, hd1, cd⟩
          generalize Fq.wD na R = RA at *
          generalize hRB : Fq.wD nbb R = RB at *
          have hRB : Hid (Fq.wD nbb R = RB) := hRB
          generalize Fq.wD (!nbb) R = RC at *
          clear hT hQ hm0 hN ha hok hz hkN hK hR hA hB hrel hF hG hk hd1 hd2
          go_wp2_with fail
          refine hr1.mono ?_
          rintro e w2 ⟨rfl, g2⟩
          obtain ⟨hT, hQ, hm0⟩ := HT2.out
          obtain ⟨hN, ha, hok, hz, hkN, hK⟩ := HN2.out
          obtain ⟨hF, hG, hk, hd1, hd2⟩ := HX.out
          replace hF := hF.kp g2
          replace hG := hG.kp g2
          replace hk := hk.trans g2
          have hr2 := fround_ (-d) (by omega) (by omega) K hK bt _ _ _ hG (hT.grown hk) (Fq.Tab.grown hQ hk)
          rw [HR.out] at hr2
          clear HX g2 hr1
          have HX : Hid (Fs w2 bs (tV n0 m0 K + tsV K (L.take N)) (N + 1) K ∧ Fs w2 bt (-(tV n0 m0 K + tsV K (L.take N))) (N + 1) K ∧ Kp w w2 ∧ -1 ≤ d ∧ d ≤ 1) := ⟨hF, hG, hk, hd1, hd2⟩
          clear hT hQ hm0 hN ha hok hz hkN hK hF hG hk hd1 hd2
          go_wp2_with fail
          refine hr2.mono ?_
          rintro e w3 ⟨rfl, g3⟩
          go_wp2_with fail
          refine (hb1 _).mono ?_; rintro e w' ⟨rfl, hw'⟩; obtain rfl := hw'.symm; clear hw'
          go_wp2_with fail
          refine (hb2 _).mono ?_; rintro e w' ⟨rfl, hw'⟩; obtain rfl := hw'.symm; clear hw'
          obtain ⟨hN, ha, hok, hz, hkN, hK⟩ := HN2.out
          obtain ⟨hF, hG, hk, hd1, hd2⟩ := HX.out
          replace hF := hF.kp g3
          replace hG := hG.kp g3
          replace hk := hk.trans g3
          have hs1 := fsign_ K hK bs _ _ _ hF
          clear HX g3 hr2
          have HX : Hid (Fs w3 bs (tV n0 m0 K + tsV K (L.take N)) (N + 1) K ∧ Fs w3 bt (-(tV n0 m0 K + tsV K (L.take N))) (N + 1) K ∧ Kp w w3 ∧ -1 ≤ d ∧ d ≤ 1) := ⟨hF, hG, hk, hd1, hd2⟩
          clear hN ha hok hz hkN hK hF hG hk hd1 hd2
          go_wp2_with fail
          refine hs1.mono ?_
          rintro e w4 ⟨rfl, g4⟩
          obtain ⟨hN, ha, hok, hz, hkN, hK⟩ := HN2.out
          obtain ⟨hF, hG, hk, hd1, hd2⟩ := HX.out
          replace hF := hF.kp g4
          replace hG := hG.kp g4
          replace hk := hk.trans g4
          have hs2 := fsign_ K hK bt _ _ _ hG
          rw [sg_neg] at hs2
          have hsc := sg_cases (tV n0 m0 K + tsV K (L.take N))
          generalize sgV (tV n0 m0 K + tsV K (L.take N)) = SG at *
          have hw1 : IntKind.i64.wrap (- -SG) = SG := by rw [IntKind.wrap_i64]; omega
          have hw2 : IntKind.i64.wrap SG = SG := by rw [IntKind.wrap_i64]; omega
          clear HX g4 hs1 hsc
          have HX : Hid (Fs w4 bs (tV n0 m0 K + tsV K (L.take N)) (N + 1) K ∧ Fs w4 bt (-(tV n0 m0 K + tsV K (L.take N))) (N + 1) K ∧ Kp w w4 ∧ -1 ≤ d ∧ d ≤ 1) := ⟨hF, hG, hk, hd1, hd2⟩
          clear hN ha hok hz hkN hK hF hG hk hd1 hd2
          go_wp2_with fail
          refine hs2.mono ?_
          rintro e w5 ⟨rfl, g5⟩
          have hwd1 : IntKind.i64.wrap (d + 1) = d + 1 := by have := HX.out; rw [IntKind.wrap_i64]; omega
          go_wp2
          obtain ⟨hF, hG, hk, hd1, hd2⟩ := HX.out
          exact ⟨⟨d + 1, rfl, by omega, by omega, hF.kp g5, hG.kp g5, hk.trans g5⟩, (show (2 - (d + 1)).toNat < (2 - d).toNat by omega)⟩
        · clear hG hd1 hd2
          obtain ⟨hT, hQ, hm0⟩ := HT2.out
          have HN := HN2
          clear HN2 HT2
          have HS : Hid (Fs wr bs (tV n0 m0 K + tsV K (L.take N) - tsV K (L.take 0)) (N + 1 + 0) K ∧ Kp w wr) := ⟨by simpa [tsV] using hF, hk⟩
          clear hF hk
          have hfin := trivial
          go_wp2_with fail
          go_loopw [12] (fun ii wr => ∃ i : Nat, ii = .int .i64 (i : Int) ∧ i ≤ N ∧ Fs wr bs (tV n0 m0 K + tsV K (L.take N) - tsV K (L.take i)) (N + 1 + i) K ∧ Kp w wr) (fun i _ => N - (intOf i).toNat)
          case atStart => exact ⟨0, rfl, Nat.zero_le _, HS.out.1, HS.out.2⟩
          case round =>
            obtain ⟨i, rfl, hi, hF, hk⟩ := hrel
            clear HS
            obtain ⟨hN, ha, hok, hz, hkN, hK⟩ := HN.out
            by_cases ci : i < N
            · obtain ⟨oX, oY⟩ := hok i (by omega)
              have hts := tsV_take K L i (by omega)
              rcases ha with ha | ⟨bl, off, rfl, ha⟩
              · rw [ha] at hN; simp at hN; omega
              obtain ⟨e0, e1, e2⟩ := ha i (by omega)
              have hbb : bl ≠ bs := by have := cell_lt e0; omega
              have e0 := kkeep hk e0
              have e1 := kkeep hk e1
              have e2 := kkeep hk e2
              obtain ⟨X, hX⟩ : ∃ X, X = (L.getD i (0, 0, false)).1 := ⟨_, rfl⟩
              obtain ⟨Y, hY⟩ : ∃ Y, Y = (L.getD i (0, 0, false)).2.1 := ⟨_, rfl⟩
              obtain ⟨pr, hpr⟩ : ∃ pr, pr = (L.getD i (0, 0, false)).2.2 := ⟨_, rfl⟩
              unfold tnV at hts
              rw [← hX] at e0 oX hts
              rw [← hY] at e1 oY hts
              rw [← hpr] at e2 hts
              have hnX := number4_ X oX
              have hnY := number4_ Y oY
              have htk := ftake4_ (tX (nmP X)) (nmP Y) pr K hK (tX_lt _ (nmP_lt X oX)) (nmP_lt Y oY) (tX_fin _ (nmP_lt X oX) (nmP_fin X)) (nmP_fin Y) bs _ (N + 1 + i) (by omega) wr.drew (show Fs wr.drew bs _ _ _ from hF)
              have hVV : tV n0 m0 K + tsV K (L.take N) - tsV K (L.take i) + tkV K (tX (nmP X)) (nmP Y) pr = tV n0 m0 K + tsV K (L.take N) - tsV K (L.take (i + 1)) := by rw [tkV_neg K _ _ pr (nmP_lt X oX), hts]; omega
              rw [hVV] at htk
              have hxt := xor_top (nmP X) (nmP_lt X oX)
              have j1 : (i : Int) < (N : Int) := by omega
              have j2 : i + 1 ≤ N := by omega
              have j3 : N - (i + 1) < N - i := by omega
              have j4 : i < N := by omega
              have j5 : (i : Int) < (N : Int) := by omega
              have e0 : wr.drew.cell? ⟨bl, off + i * 3, none⟩ = some (.int .u64 (X : Int)) := e0
              have e1 : wr.drew.cell? ⟨bl, off + i * 3 + 1, none⟩ = some (.int .u64 (Y : Int)) := e1
              have e2 : wr.drew.cell? ⟨bl, off + i * 3 + 2, none⟩ = some (.bool pr) := e2
              have HK : Hid (Kp w wr.drew ∧ w.heap.size ≤ bs) := ⟨hk.drew, hz⟩
              obtain ⟨NX, hNX⟩ : ∃ NX, NX = nmP X := ⟨_, rfl⟩
              obtain ⟨NY, hNY⟩ : ∃ NY, NY = nmP Y := ⟨_, rfl⟩
              rw [← hNX] at hnX htk hxt
              rw [← hNY] at hnY htk
              clear hN ha hok hz hkN hK HN hi oX oY hts hX hY hpr hF hVV ci hk hNX hNY hfin
              go_upto_region 24 with fail
              go_region_held3 (fun w' => w'.cell? ⟨bl, off + i * 3, none⟩ = some (.int .u64 (X : Int)) ∧ w'.cell? ⟨bl, off + i * 3 + 1, none⟩ = some (.int .u64 (Y : Int)) ∧ w'.cell? ⟨bl, off + i * 3 + 2, none⟩ = some (.bool pr)) (first | (with_reducible exact ⟨e0, e1, e2⟩) | (with_reducible exact ⟨f0, f1, f2⟩)) (first | (go_at_call_of 19 (Value.int IntKind.u64 (X : Int)); refine (hnX _).mono ?_; rintro e w' ⟨rfl, hw'⟩; obtain rfl := hw'.symm; clear hw') | (go_at_call_of 19 (Value.int IntKind.u64 (Y : Int)); refine (hnY _).mono ?_; rintro e w' ⟨rfl, hw'⟩; obtain rfl := hw'.symm; clear hw') | (go_at_call 20; refine htk.mono ?_; rintro e w1 ⟨⟨v1, rfl⟩, F1, kb1⟩; have f0 := kb1.arr hbb e0; have f1 := kb1.arr hbb e1; have f2 := kb1.arr hbb e2))
              all_goals (
                go_wp2
                exact ⟨⟨i + 1, by go_num, j2, F1, kb1.kp HK.out.1 HK.out.2⟩, (show N - (i + 1) < N - i from j3)⟩)
            · have hik : i = N := by omega
              have t1 : ¬ ((i : Int) < (N : Int)) := by omega
              rw [hik] at hF
              clear hi ci hik
              have hF : Fs wr bs (tV n0 m0 K + tsV K (L.take N) - tsV K (L.take N)) (N + N + 1) K := by rw [show N + N + 1 = N + 1 + N from by omega]; exact hF
              have hVf : tV n0 m0 K + tsV K (L.take N) - tsV K (L.take N) = tV n0 m0 K := by omega
              rw [hVf] at hF
              have hfd := fma_self (-1) n0 m0 K hK hm0
              have hfu := fma_self 1 n0 m0 K hK hm0
              have hpl := plain4_ n0 m0 hm0
              have hr1 := fround_ (-1) (by decide) (by decide) K hK bs _ _ wr hF (hT.grown hk) (Fq.Tab.grown hQ hk)
              rw [hfd] at hr1
              have hb1 : ∀ w : World, Calls Tryz.prog 23 #[.float .f64 (if m0 = 0 then 0 else Fq.wD n0 m0)] w fun e w' => e = .returned (.int .u64 (((if m0 = 0 then 0 else Fq.wD n0 m0) : Nat) : Int)) ∧ w' = w := by
                have := fun w => bits4_ _ (ordfma4 (-1) (tV n0 m0 K)) w
                rw [hfd] at this
                exact this
              have hsz : sgV (tV n0 m0 K) = 0 ↔ (if m0 = 0 then 0 else Fq.wD n0 m0) = 0 := by
                have hvz := vV_zero m0
                unfold sgV tV Iv
                by_cases z : m0 = 0
                · rw [hvz.2 z]; simp [z]
                · have hv : 0 < Fq.vV Ieee.double m0 := Nat.pos_of_ne_zero (fun h => z (hvz.1 h))
                  have hp : (0 : Int) < ((Fq.vV Ieee.double m0 : Nat) : Int) * ((2 ^ K : Nat) : Int) := Int.mul_pos (by omega) (by have := Nat.two_pow_pos K; omega)
                  have hw : Fq.wD n0 m0 ≠ 0 := by unfold Fq.wD; cases n0 <;> simp <;> omega
                  rw [if_neg z]
                  cases n0
                  · simp only [Bool.false_eq_true, if_false]
                    rw [if_neg (by omega), if_neg (by omega)]
                    simp [hw]
                  · simp only [if_true, Int.neg_mul]
                    rw [if_pos (by omega)]
                    simp [hw]
              have HE : Hid (Tab w ∧ Fq.Tab w ∧ K = 1074 ∧ Kp w wr ∧ Fs wr bs (tV n0 m0 K) (N + N + 1) K ∧ m0 < 9218868437227405312) := ⟨hT, hQ, hK, hk, hF, hm0⟩
              have hsx := sg_cases (tV n0 m0 K)
              generalize hZZ : (if m0 = 0 then 0 else Fq.wD n0 m0) = ZZ at *
              generalize hSS : sgV (tV n0 m0 K) = SS at *
              have HQ : Hid ((if m0 = 0 then 0 else Fq.wD n0 m0) = ZZ ∧ sgV (tV n0 m0 K) = SS ∧ fmaW 1 (tV n0 m0 K) = ZZ) := ⟨hZZ, hSS, hfu⟩
              have hbb : ((SS == 0) == (((ZZ : Nat) : Int) == 0)) = true := by
                rw [beq_iff_eq, Bool.eq_iff_iff, beq_iff_eq, beq_iff_eq]; omega
              clear HN hN ha hok hz hkN hVf hfd hfu hT hQ hK hk hF hm0 hZZ hSS hsx hfin
              go_wp2_with fail
              refine (hnx _).mono ?_; rintro e w' ⟨rfl, hw'⟩; obtain rfl := hw'.symm; clear hw'
              go_wp2_with fail
              refine (hpl _).mono ?_; rintro e w' ⟨rfl, hw'⟩; obtain rfl := hw'.symm; clear hw'
              go_wp2_with fail
              refine hr1.mono ?_
              rintro e w1 ⟨rfl, g1⟩
              obtain ⟨hT, hQ, hK, hk, hF, hm0⟩ := HE.out
              replace hk := hk.trans g1
              replace hF := hF.kp g1
              have hr2 := fround_ 1 (by decide) (by decide) K hK bs _ _ w1 hF (hT.grown hk) (Fq.Tab.grown hQ hk)
              rw [HQ.out.2.2] at hr2
              clear hr1 g1 HE
              have HE : Hid (Tab w ∧ Fq.Tab w ∧ K = 1074 ∧ Kp w w1 ∧ Fs w1 bs (tV n0 m0 K) (N + N + 1) K) := ⟨hT, hQ, hK, hk, hF⟩
              clear hT hQ hK hk hF hm0
              go_wp2_with fail
              refine (hb1 _).mono ?_; rintro e w' ⟨rfl, hw'⟩; obtain rfl := hw'.symm; clear hw'
              go_wp2_with fail
              refine hr2.mono ?_
              rintro e w2 ⟨rfl, g2⟩
              go_wp2_with fail
              refine (hb1 _).mono ?_; rintro e w' ⟨rfl, hw'⟩; obtain rfl := hw'.symm; clear hw'
              obtain ⟨hT, hQ, hK, hk, hF⟩ := HE.out
              replace hk := hk.trans g2
              replace hF := hF.kp g2
              have hst2 := fstate_ K bs _ _ _ hF
              have hsg2 := fsign_ K hK bs _ _ _ hF
              rw [HQ.out.2.1] at hsg2
              clear HE hr2 g2
              have HE : Hid (Tab w ∧ Fq.Tab w ∧ Kp w w2) := ⟨hT, hQ, hk⟩
              clear hT hQ hK hk hF
              go_wp2_with fail
              refine hst2.mono ?_
              rintro e w' ⟨rfl, hw'⟩; obtain rfl := hw'.symm; clear hw'
              go_wp2_with fail
              refine hsg2.mono ?_
              rintro e w3 ⟨rfl, g3⟩
              go_wp2_with fail
              obtain ⟨hT, hQ, hk⟩ := HE.out
              replace hk := hk.trans g3
              refine (lives_ _ (hT.grown hk) (Fq.Tab.grown hQ hk)).mono ?_
              rintro e w4 ⟨rfl, g4⟩
              go_wp2
              exact bodyPost_ret (v := .bool true) (by simp [results, Tryz.results5, go_sem]) rfl ⟨rfl, hk.trans g4⟩
end Go.Proofs.YtokhnokobkmmkaaGreatDoor
namespace Go.Proofs.YtokhnokobkmmkaaGreatDoor
open Go.RowKit
set_option maxRecDepth 20000 in
set_option maxHeartbeats 8000000 in
theorem tcancelsA_ (K : Nat) (hK : K = 1074) (p : Option Addr) (c : Nat) (L : List Tm) (hok : TmOk L) (h3 : 3000 < L.length) (x : Nat) (hx : x < 18446744073709551616) (w : World) (ha : ArrT w p L) (hT : Tab w) (hQ : Fq.Tab w) : Calls Tryz.prog 5 #[.slice p L.length c, .int .u64 (x : Int)] w fun e w' => e = .returned (.bool true) ∧ Kp w w' := by
  have hfin := nmP_fin x
  have hnl := nmP_lt x hx
  have hnx := number4_ x hx
  obtain ⟨n0, m0, hm0, hn0⟩ := Fq.exD (nmP x) hnl
  rw [hn0, (wD_parts n0 m0 hm0).1] at hfin
  clear hm0 hnl
  have hm0 := hfin
  rw [hn0] at hnx
  clear hn0
  have hflx := fl4_ (Fq.wD n0 m0)
  have hadx := fun (b : Nat) (W : World) (h : Fs W b 0 0 K) => fadd_ n0 m0 hm0 K hK b 0 0 (by decide) W h
  have hlv := lives_ w hT hQ
  obtain ⟨N, hN⟩ : ∃ N, N = L.length := ⟨_, rfl⟩
  rw [← hN] at h3 ⊢
  have j9 : (3000 : Int) < (N : Int) := by omega
  have HN0 : Hid (N = L.length ∧ ArrT w p L ∧ TmOk L ∧ K = 1074 ∧ Tab w ∧ Fq.Tab w ∧ m0 < 9218868437227405312 ∧ 3000 ≤ N ∧ 3000 ≤ 3000) := ⟨hN, ha, hok, hK, hT, hQ, hm0, by omega, by omega⟩
  clear hN ha hok hK hT hQ hm0 h3 hx hfin
  go_enter Tryz.func5, Tryz.ntmps5
  go_wp2_with fail
  refine hlv.mono ?_
  rintro e wa ⟨rfl, ga⟩
  go_wp2_with fail
  refine (fnew_ K _).mono ?_
  rintro e wb ⟨rfl, F0, gb⟩
  have hk : Kp w wb := ga.trans gb
  have hz : w.heap.size ≤ wa.heap.size := ga.size
  clear ga gb hlv
  generalize wa.heap.size = bs at *
  go_wp2_with fail
  refine (hnx _).mono ?_; rintro e w' ⟨rfl, hw'⟩; obtain rfl := hw'.symm; clear hw'
  go_wp2_with fail
  refine (hflx _).mono ?_; rintro e w' ⟨rfl, hw'⟩; obtain rfl := hw'.symm; clear hw'
  go_wp2_with fail
  refine (hadx bs _ F0).mono ?_
  rintro e wc_ ⟨⟨vc, rfl⟩, F1, kb⟩
  have hk2 := kb.kp hk hz
  clear kb hk F0 hadx hflx
  obtain ⟨hN, ha, hok, hK, hT, hQ, hm0, hkN, hk3⟩ := HN0.out
  have HN : Hid (N = L.length ∧ ArrT w p L ∧ TmOk L ∧ w.heap.size ≤ bs ∧ 3000 ≤ N ∧ K = 1074) := ⟨hN, ha, hok, hz, hkN, hK⟩
  have HS : Hid (Fs wc_ bs (tV n0 m0 K + tsV K (L.take 0)) (0 + 1) K ∧ Kp w wc_) := ⟨by simpa [tsV] using F1, hk2⟩
  clear HN0 hN ha hok hK hkN F1 hk2 hz
  have hfin := trivial
  go_wp2_with fail
  go_loopw [7] (fun ii wr => ∃ i : Nat, ii = .int .i64 (i : Int) ∧ i ≤ 3000 ∧ Fs wr bs (tV n0 m0 K + tsV K (L.take i)) (i + 1) K ∧ Kp w wr) (fun i _ => 3000 - (intOf i).toNat)
  case atStart => exact ⟨0, rfl, Nat.zero_le _, HS.out.1, HS.out.2⟩
  case round =>
    obtain ⟨i, rfl, hi, hF, hk⟩ := hrel
    clear HS
    obtain ⟨hN, ha, hok, hz, hkN, hK⟩ := HN.out
    by_cases ci : i < 3000
    · obtain ⟨oX, oY⟩ := hok i (by omega)
      have hts := tsV_take K L i (by omega)
      rcases ha with ha | ⟨bl, off, rfl, ha⟩
      · rw [ha] at hN; simp at hN; omega
      obtain ⟨e0, e1, e2⟩ := ha i (by omega)
      have hbb : bl ≠ bs := by have := cell_lt e0; omega
      have e0 := kkeep hk e0
      have e1 := kkeep hk e1
      have e2 := kkeep hk e2
      obtain ⟨X, hX⟩ : ∃ X, X = (L.getD i (0, 0, false)).1 := ⟨_, rfl⟩
      obtain ⟨Y, hY⟩ : ∃ Y, Y = (L.getD i (0, 0, false)).2.1 := ⟨_, rfl⟩
      obtain ⟨pr, hpr⟩ : ∃ pr, pr = (L.getD i (0, 0, false)).2.2 := ⟨_, rfl⟩
      unfold tnV at hts
      rw [← hX] at e0 oX hts
      rw [← hY] at e1 oY hts
      rw [← hpr] at e2 hts
      have hnX := number4_ X oX
      have hnY := number4_ Y oY
      have htk := ftake4_ (nmP X) (nmP Y) pr K hK (nmP_lt X oX) (nmP_lt Y oY) (nmP_fin X) (nmP_fin Y) bs _ (i + 1) (by omega) wr.drew (show Fs wr.drew bs _ _ _ from hF)
      have hVV : tV n0 m0 K + tsV K (L.take i) + tkV K (nmP X) (nmP Y) pr = tV n0 m0 K + tsV K (L.take (i + 1)) := by rw [hts]; omega
      rw [hVV] at htk
      have hxt := xor_top (nmP X) (nmP_lt X oX)
      have j1 : (i : Int) < 3000 := by omega
      have j2 : i + 1 ≤ 3000 := by omega
      have j3 : 3000 - (i + 1) < 3000 - i := by omega
      have j4 : i < N := by omega
      have j5 : (i : Int) < (N : Int) := by omega
      have e0 : wr.drew.cell? ⟨bl, off + i * 3, none⟩ = some (.int .u64 (X : Int)) := e0
      have e1 : wr.drew.cell? ⟨bl, off + i * 3 + 1, none⟩ = some (.int .u64 (Y : Int)) := e1
      have e2 : wr.drew.cell? ⟨bl, off + i * 3 + 2, none⟩ = some (.bool pr) := e2
      have HK : Hid (Kp w wr.drew ∧ w.heap.size ≤ bs) := ⟨hk.drew, hz⟩
      obtain ⟨NX, hNX⟩ : ∃ NX, NX = nmP X := ⟨_, rfl⟩
      obtain ⟨NY, hNY⟩ : ∃ NY, NY = nmP Y := ⟨_, rfl⟩
      rw [← hNX] at hnX htk hxt
      rw [← hNY] at hnY htk
      clear hN ha hok hz hkN hK HN hi oX oY hts hX hY hpr hF hVV ci hk hNX hNY hfin
      go_upto_region 11 with fail
      go_region_held3 (fun w' => w'.cell? ⟨bl, off + i * 3, none⟩ = some (.int .u64 (X : Int)) ∧ w'.cell? ⟨bl, off + i * 3 + 1, none⟩ = some (.int .u64 (Y : Int)) ∧ w'.cell? ⟨bl, off + i * 3 + 2, none⟩ = some (.bool pr)) (first | (with_reducible exact ⟨e0, e1, e2⟩) | (with_reducible exact ⟨f0, f1, f2⟩)) (first | (go_at_call_of 19 (Value.int IntKind.u64 (X : Int)); refine (hnX _).mono ?_; rintro e w' ⟨rfl, hw'⟩; obtain rfl := hw'.symm; clear hw') | (go_at_call_of 19 (Value.int IntKind.u64 (Y : Int)); refine (hnY _).mono ?_; rintro e w' ⟨rfl, hw'⟩; obtain rfl := hw'.symm; clear hw') | (go_at_call 20; refine htk.mono ?_; rintro e w1 ⟨⟨v1, rfl⟩, F1, kb1⟩; have f0 := kb1.arr hbb e0; have f1 := kb1.arr hbb e1; have f2 := kb1.arr hbb e2))
      all_goals (
        go_wp2
        exact ⟨⟨i + 1, by go_num, j2, F1, kb1.kp HK.out.1 HK.out.2⟩, (show 3000 - (i + 1) < 3000 - i from j3)⟩)
    · have hik : i = 3000 := by omega
      have t1 : ¬ ((i : Int) < 3000) := by omega
      rw [hik] at hF
      clear hi ci hik
      have hV1 : tV n0 m0 K + tsV K (L.take 3000) = tV n0 m0 K + tsV K (L.take 3000) := rfl
      obtain ⟨ws, hRp, hSb, hk9, hle9⟩ := hF
      have hcs := sumcells ws hSb.1 (3000 + 1) 0
      have hco := sumone ws (3000 + 1) 0
      have hld := run_loadVar_row (P := Tryz.prog) wr bs 57 57 _ (0, 0) _ hSb.2 Tryz.underlying57 rfl (by rw [hcs]; exact infoS)
      have hsv := fun (W : World) => run_storeCells_new (P := Tryz.prog) W 57 (wc (List.replicate 67 0) ++ #[Value.int .u64 0, Value.int .i64 0]) _ (by rw [hcs]; exact infoS) (by rw [hcs]; exact sumcells _ List.length_replicate 0 0) hco
      have hzz := zeroS
      generalize wc (List.replicate 67 0) ++ #[Value.int .u64 0, Value.int .i64 0] = ZC at *
      obtain ⟨CC, hCC⟩ : ∃ CC, CC = wc ws ++ #[Value.int .u64 (((3000 + 1 : Nat)) : Int), Value.int .i64 0] := ⟨_, rfl⟩
      rw [← hCC] at hcs hco hld hsv
      have hbt : Sb (wr.alloc (.cells CC 57)) wr.heap.size ws (3000 + 1) 0 := ⟨hSb.1, by rw [hCC]; exact Bk.new _ _ _⟩
      have hng := neg_ wr.heap.size ws (tV n0 m0 K + tsV K (L.take 3000)) hRp (3000 + 1) 0 (by decide) (by decide) (wr.alloc (.cells CC 57)) hbt
      have hlt := hSb.2.lt
      have hFs : Fs (wr.alloc (.cells CC 57)) bs (tV n0 m0 K + tsV K (L.take 3000)) (3000 + 1) K := Fs.kp ⟨ws, hRp, hSb, hk9, hle9⟩ ((Kp.refl _).alloc _)
      have HM : Hid (Fs (wr.alloc (.cells CC 57)) bs (tV n0 m0 K + tsV K (L.take 3000)) (3000 + 1) K ∧ Kp w (wr.alloc (.cells CC 57)) ∧ bs < wr.heap.size ∧ w.heap.size ≤ wr.heap.size ∧ (tV n0 m0 K + tsV K (L.take 3000)).natAbs ≤ (3000 + 1) * tb K) := ⟨hFs, hk.alloc _, hlt, hk.size, hle9⟩
      have HN2 : Hid (N = L.length ∧ ArrT w p L ∧ TmOk L ∧ w.heap.size ≤ bs ∧ 3000 ≤ N ∧ K = 1074) := HN.out
      have HT2 : Hid (Tab w ∧ Fq.Tab w ∧ m0 < 9218868437227405312) := ⟨hT, hQ, hm0⟩
      clear hN ha hok hz hkN hK HN hRp hSb hk9 hle9 hCC hbt hlt hFs hk hV1 hT hQ hm0 hfin
      go_upto_region 12 with fail
      refine wp_region_list ?_
      refine wpl_val rfl _ rfl ?_
      refine wpl_val rfl _ rfl ?_
      refine wpl_load rfl 57 _ rfl bs 0 rfl _ hld ?_
      go_wp2_with fail
      refine hng.mono ?_
      rintro e w1 ⟨z, ⟨v1, rfl⟩, hSz, hRz, kb1⟩
      obtain ⟨hFs, hk, hlt, hsz, hle9⟩ := HM.out
      replace hFs := hFs.kb kb1 (by omega)
      replace hk := kb1.kp hk hsz
      have hFt : Fs w1 wr.heap.size (-(tV n0 m0 K + tsV K (L.take 3000))) (3000 + 1) K := ⟨z, hRz, hSz, by omega, by rw [Int.natAbs_neg]; exact hle9⟩
      generalize wr.heap.size = bt at *
      clear HM kb1 hSz hRz hng hld hsv hzz hcs hco
      have HL : Hid (Fs w1 bs (tV n0 m0 K + tsV K (L.take 3000)) (3000 + 1) K ∧ Fs w1 bt (-(tV n0 m0 K + tsV K (L.take 3000))) (3000 + 1) K ∧ Kp w w1) := ⟨hFs, hFt, hk⟩
      clear hFs hFt hk hle9
      go_wp2_with fail
      go_loopw [9, 10, 11] (fun dd aa bb wq => ∃ d : Int, dd = .int .i64 d ∧ -1 ≤ d ∧ d ≤ 2 ∧ Fs wq bs (tV n0 m0 K + tsV K (L.take 3000)) (3000 + 1) K ∧ Fs wq bt (-(tV n0 m0 K + tsV K (L.take 3000))) (3000 + 1) K ∧ Kp w wq) (fun dd _ _ _ => (2 - intOf dd).toNat)
      case atStart => exact ⟨-1, rfl, by decide, by decide, HL.out.1, HL.out.2.1, HL.out.2.2⟩
      case round =>
        obtain ⟨d, rfl, hd1, hd2, hF, hG, hk⟩ := hrel
        clear HL
        by_cases cd : d ≤ 1
        · obtain ⟨hT, hQ, hm0⟩ := HT2.out
          obtain ⟨hN, ha, hok, hz, hkN, hK⟩ := HN2.out
          obtain ⟨na, nbb, R, hR, hA, hB, hrel⟩ := fma_pair d (tV n0 m0 K + tsV K (L.take 3000))
          have hr1 := fround_ d (by omega) (by omega) K hK bs _ _ _ hF (hT.grown hk) (Fq.Tab.grown hQ hk)
          rw [hA] at hr1
          have hb1 := fun w => bits4_ _ (ordfma4 d (tV n0 m0 K + tsV K (L.take 3000))) w
          rw [hA] at hb1
          have hb2 := fun w => bits4_ _ (ordfma4 (-d) (-(tV n0 m0 K + tsV K (L.take 3000)))) w
          rw [hB] at hb2
          have hnw := neg4W nbb R (by omega)
          have hor := pair_ord na nbb R hR hrel
          obtain ⟨ht1, ht2⟩ := pair_top na nbb R hR hrel
          have ht1 : ((((Fq.wD na R : Nat) : Int)) == 9223372036854775808) = false := beq_eq_false_iff_ne.2 (by omega)
          have ht2 : ((((Fq.wD nbb R : Nat) : Int)) == 9223372036854775808) = false := beq_eq_false_iff_ne.2 (by omega)
          have hwd : IntKind.i64.wrap (-d) = -d := by rw [IntKind.wrap_i64]; omega
          have HR : Hid (fmaW (-d) (-(tV n0 m0 K + tsV K (L.take 3000))) = Fq.wD nbb R) := hB
          have HX : Hid (Fs wr bs (tV n0 m0 K + tsV K (L.take 3000)) (3000 + 1) K ∧ Fs wr bt (-(tV n0 m0 K + tsV K (L.take 3000))) (3000 + 1) K ∧ Kp w wr ∧ -1 ≤ d ∧ d ≤ 1) := ⟨hF, hG, hk, hd1, cd⟩
          generalize Fq.wD na R = RA at *
          generalize hRB : Fq.wD nbb R = RB at *
          have hRB : Hid (Fq.wD nbb R = RB) := hRB
          generalize Fq.wD (!nbb) R = RC at *
          clear hT hQ hm0 hN ha hok hz hkN hK hR hA hB hrel hF hG hk hd1 hd2
          go_wp2_with fail
          refine hr1.mono ?_
          rintro e w2 ⟨rfl, g2⟩
          obtain ⟨hT, hQ, hm0⟩ := HT2.out
          obtain ⟨hN, ha, hok, hz, hkN, hK⟩ := HN2.out
          obtain ⟨hF, hG, hk, hd1, hd2⟩ := HX.out
          replace hF := hF.kp g2
          replace hG := hG.kp g2
          replace hk := hk.trans g2
          have hr2 := fround_ (-d) (by omega) (by omega) K hK bt _ _ _ hG (hT.grown hk) (Fq.Tab.grown hQ hk)
          rw [HR.out] at hr2
          clear HX g2 hr1
          have HX : Hid (Fs w2 bs (tV n0 m0 K + tsV K (L.take 3000)) (3000 + 1) K ∧ Fs w2 bt (-(tV n0 m0 K + tsV K (L.take 3000))) (3000 + 1) K ∧ Kp w w2 ∧ -1 ≤ d ∧ d ≤ 1) := ⟨hF, hG, hk, hd1, hd2⟩
          clear hT hQ hm0 hN ha hok hz hkN hK hF hG hk hd1 hd2
          go_wp2_with fail
          refine hr2.mono ?_
          rintro e w3 ⟨rfl, g3⟩
          go_wp2_with fail
          refine (hb1 _).mono ?_; rintro e w' ⟨rfl, hw'⟩; obtain rfl := hw'.symm; clear hw'
          go_wp2_with fail
          refine (hb2 _).mono ?_; rintro e w' ⟨rfl, hw'⟩; obtain rfl := hw'.symm; clear hw'
          obtain ⟨hN, ha, hok, hz, hkN, hK⟩ := HN2.out
          obtain ⟨hF, hG, hk, hd1, hd2⟩ := HX.out
          replace hF := hF.kp g3
          replace hG := hG.kp g3
          replace hk := hk.trans g3
          have hs1 := fsign_ K hK bs _ _ _ hF
          clear HX g3 hr2
          have HX : Hid (Fs w3 bs (tV n0 m0 K + tsV K (L.take 3000)) (3000 + 1) K ∧ Fs w3 bt (-(tV n0 m0 K + tsV K (L.take 3000))) (3000 + 1) K ∧ Kp w w3 ∧ -1 ≤ d ∧ d ≤ 1) := ⟨hF, hG, hk, hd1, hd2⟩
          clear hN ha hok hz hkN hK hF hG hk hd1 hd2
          go_wp2_with fail
          refine hs1.mono ?_
          rintro e w4 ⟨rfl, g4⟩
          obtain ⟨hN, ha, hok, hz, hkN, hK⟩ := HN2.out
          obtain ⟨hF, hG, hk, hd1, hd2⟩ := HX.out
          replace hF := hF.kp g4
          replace hG := hG.kp g4
          replace hk := hk.trans g4
          have hs2 := fsign_ K hK bt _ _ _ hG
          rw [sg_neg] at hs2
          have hsc := sg_cases (tV n0 m0 K + tsV K (L.take 3000))
          generalize sgV (tV n0 m0 K + tsV K (L.take 3000)) = SG at *
          have hw1 : IntKind.i64.wrap (- -SG) = SG := by rw [IntKind.wrap_i64]; omega
          have hw2 : IntKind.i64.wrap SG = SG := by rw [IntKind.wrap_i64]; omega
          clear HX g4 hs1 hsc
          have HX : Hid (Fs w4 bs (tV n0 m0 K + tsV K (L.take 3000)) (3000 + 1) K ∧ Fs w4 bt (-(tV n0 m0 K + tsV K (L.take 3000))) (3000 + 1) K ∧ Kp w w4 ∧ -1 ≤ d ∧ d ≤ 1) := ⟨hF, hG, hk, hd1, hd2⟩
          clear hN ha hok hz hkN hK hF hG hk hd1 hd2
          go_wp2_with fail
          refine hs2.mono ?_
          rintro e w5 ⟨rfl, g5⟩
          have hwd1 : IntKind.i64.wrap (d + 1) = d + 1 := by have := HX.out; rw [IntKind.wrap_i64]; omega
          go_wp2
          obtain ⟨hF, hG, hk, hd1, hd2⟩ := HX.out
          exact ⟨⟨d + 1, rfl, by omega, by omega, hF.kp g5, hG.kp g5, hk.trans g5⟩, (show (2 - (d + 1)).toNat < (2 - d).toNat by omega)⟩
        · clear hG hd1 hd2
          obtain ⟨hT, hQ, hm0⟩ := HT2.out
          have HN := HN2
          clear HN2 HT2
          have HS : Hid (Fs wr bs (tV n0 m0 K + tsV K (L.take 3000) - tsV K (L.take 0)) (3000 + 1 + 0) K ∧ Kp w wr) := ⟨by simpa [tsV] using hF, hk⟩
          clear hF hk
          have hfin := trivial
          go_wp2_with fail
          go_loopw [12] (fun ii wr => ∃ i : Nat, ii = .int .i64 (i : Int) ∧ i ≤ 3000 ∧ Fs wr bs (tV n0 m0 K + tsV K (L.take 3000) - tsV K (L.take i)) (3000 + 1 + i) K ∧ Kp w wr) (fun i _ => 3000 - (intOf i).toNat)
          case atStart => exact ⟨0, rfl, Nat.zero_le _, HS.out.1, HS.out.2⟩
          case round =>
            obtain ⟨i, rfl, hi, hF, hk⟩ := hrel
            clear HS
            obtain ⟨hN, ha, hok, hz, hkN, hK⟩ := HN.out
            by_cases ci : i < 3000
            · obtain ⟨oX, oY⟩ := hok i (by omega)
              have hts := tsV_take K L i (by omega)
              rcases ha with ha | ⟨bl, off, rfl, ha⟩
              · rw [ha] at hN; simp at hN; omega
              obtain ⟨e0, e1, e2⟩ := ha i (by omega)
              have hbb : bl ≠ bs := by have := cell_lt e0; omega
              have e0 := kkeep hk e0
              have e1 := kkeep hk e1
              have e2 := kkeep hk e2
              obtain ⟨X, hX⟩ : ∃ X, X = (L.getD i (0, 0, false)).1 := ⟨_, rfl⟩
              obtain ⟨Y, hY⟩ : ∃ Y, Y = (L.getD i (0, 0, false)).2.1 := ⟨_, rfl⟩
              obtain ⟨pr, hpr⟩ : ∃ pr, pr = (L.getD i (0, 0, false)).2.2 := ⟨_, rfl⟩
              unfold tnV at hts
              rw [← hX] at e0 oX hts
              rw [← hY] at e1 oY hts
              rw [← hpr] at e2 hts
              have hnX := number4_ X oX
              have hnY := number4_ Y oY
              have htk := ftake4_ (tX (nmP X)) (nmP Y) pr K hK (tX_lt _ (nmP_lt X oX)) (nmP_lt Y oY) (tX_fin _ (nmP_lt X oX) (nmP_fin X)) (nmP_fin Y) bs _ (3000 + 1 + i) (by omega) wr.drew (show Fs wr.drew bs _ _ _ from hF)
              have hVV : tV n0 m0 K + tsV K (L.take 3000) - tsV K (L.take i) + tkV K (tX (nmP X)) (nmP Y) pr = tV n0 m0 K + tsV K (L.take 3000) - tsV K (L.take (i + 1)) := by rw [tkV_neg K _ _ pr (nmP_lt X oX), hts]; omega
              rw [hVV] at htk
              have hxt := xor_top (nmP X) (nmP_lt X oX)
              have j1 : (i : Int) < 3000 := by omega
              have j2 : i + 1 ≤ 3000 := by omega
              have j3 : 3000 - (i + 1) < 3000 - i := by omega
              have j4 : i < N := by omega
              have j5 : (i : Int) < (N : Int) := by omega
              have e0 : wr.drew.cell? ⟨bl, off + i * 3, none⟩ = some (.int .u64 (X : Int)) := e0
              have e1 : wr.drew.cell? ⟨bl, off + i * 3 + 1, none⟩ = some (.int .u64 (Y : Int)) := e1
              have e2 : wr.drew.cell? ⟨bl, off + i * 3 + 2, none⟩ = some (.bool pr) := e2
              have HK : Hid (Kp w wr.drew ∧ w.heap.size ≤ bs) := ⟨hk.drew, hz⟩
              obtain ⟨NX, hNX⟩ : ∃ NX, NX = nmP X := ⟨_, rfl⟩
              obtain ⟨NY, hNY⟩ : ∃ NY, NY = nmP Y := ⟨_, rfl⟩
              rw [← hNX] at hnX htk hxt
              rw [← hNY] at hnY htk
              clear hN ha hok hz hkN hK HN hi oX oY hts hX hY hpr hF hVV ci hk hNX hNY hfin
              go_upto_region 24 with fail
              go_region_held3 (fun w' => w'.cell? ⟨bl, off + i * 3, none⟩ = some (.int .u64 (X : Int)) ∧ w'.cell? ⟨bl, off + i * 3 + 1, none⟩ = some (.int .u64 (Y : Int)) ∧ w'.cell? ⟨bl, off + i * 3 + 2, none⟩ = some (.bool pr)) (first | (with_reducible exact ⟨e0, e1, e2⟩) | (with_reducible exact ⟨f0, f1, f2⟩)) (first | (go_at_call_of 19 (Value.int IntKind.u64 (X : Int)); refine (hnX _).mono ?_; rintro e w' ⟨rfl, hw'⟩; obtain rfl := hw'.symm; clear hw') | (go_at_call_of 19 (Value.int IntKind.u64 (Y : Int)); refine (hnY _).mono ?_; rintro e w' ⟨rfl, hw'⟩; obtain rfl := hw'.symm; clear hw') | (go_at_call 20; refine htk.mono ?_; rintro e w1 ⟨⟨v1, rfl⟩, F1, kb1⟩; have f0 := kb1.arr hbb e0; have f1 := kb1.arr hbb e1; have f2 := kb1.arr hbb e2))
              all_goals (
                go_wp2
                exact ⟨⟨i + 1, by go_num, j2, F1, kb1.kp HK.out.1 HK.out.2⟩, (show 3000 - (i + 1) < 3000 - i from j3)⟩)
            · have hik : i = 3000 := by omega
              have t1 : ¬ ((i : Int) < 3000) := by omega
              rw [hik] at hF
              clear hi ci hik
              have hF : Fs wr bs (tV n0 m0 K + tsV K (L.take 3000) - tsV K (L.take 3000)) (3000 + 3000 + 1) K := by rw [show 3000 + 3000 + 1 = 3000 + 1 + 3000 from by omega]; exact hF
              have hVf : tV n0 m0 K + tsV K (L.take 3000) - tsV K (L.take 3000) = tV n0 m0 K := by omega
              rw [hVf] at hF
              have hfd := fma_self (-1) n0 m0 K hK hm0
              have hfu := fma_self 1 n0 m0 K hK hm0
              have hpl := plain4_ n0 m0 hm0
              have hr1 := fround_ (-1) (by decide) (by decide) K hK bs _ _ wr hF (hT.grown hk) (Fq.Tab.grown hQ hk)
              rw [hfd] at hr1
              have hb1 : ∀ w : World, Calls Tryz.prog 23 #[.float .f64 (if m0 = 0 then 0 else Fq.wD n0 m0)] w fun e w' => e = .returned (.int .u64 (((if m0 = 0 then 0 else Fq.wD n0 m0) : Nat) : Int)) ∧ w' = w := by
                have := fun w => bits4_ _ (ordfma4 (-1) (tV n0 m0 K)) w
                rw [hfd] at this
                exact this
              have hsz : sgV (tV n0 m0 K) = 0 ↔ (if m0 = 0 then 0 else Fq.wD n0 m0) = 0 := by
                have hvz := vV_zero m0
                unfold sgV tV Iv
                by_cases z : m0 = 0
                · rw [hvz.2 z]; simp [z]
                · have hv : 0 < Fq.vV Ieee.double m0 := Nat.pos_of_ne_zero (fun h => z (hvz.1 h))
                  have hp : (0 : Int) < ((Fq.vV Ieee.double m0 : Nat) : Int) * ((2 ^ K : Nat) : Int) := Int.mul_pos (by omega) (by have := Nat.two_pow_pos K; omega)
                  have hw : Fq.wD n0 m0 ≠ 0 := by unfold Fq.wD; cases n0 <;> simp <;> omega
                  rw [if_neg z]
                  cases n0
                  · simp only [Bool.false_eq_true, if_false]
                    rw [if_neg (by omega), if_neg (by omega)]
                    simp [hw]
                  · simp only [if_true, Int.neg_mul]
                    rw [if_pos (by omega)]
                    simp [hw]
              have HE : Hid (Tab w ∧ Fq.Tab w ∧ K = 1074 ∧ Kp w wr ∧ Fs wr bs (tV n0 m0 K) (3000 + 3000 + 1) K ∧ m0 < 9218868437227405312) := ⟨hT, hQ, hK, hk, hF, hm0⟩
              have hsx := sg_cases (tV n0 m0 K)
              generalize hZZ : (if m0 = 0 then 0 else Fq.wD n0 m0) = ZZ at *
              generalize hSS : sgV (tV n0 m0 K) = SS at *
              have HQ : Hid ((if m0 = 0 then 0 else Fq.wD n0 m0) = ZZ ∧ sgV (tV n0 m0 K) = SS ∧ fmaW 1 (tV n0 m0 K) = ZZ) := ⟨hZZ, hSS, hfu⟩
              have hbb : ((SS == 0) == (((ZZ : Nat) : Int) == 0)) = true := by
                rw [beq_iff_eq, Bool.eq_iff_iff, beq_iff_eq, beq_iff_eq]; omega
              clear HN hN ha hok hz hkN hVf hfd hfu hT hQ hK hk hF hm0 hZZ hSS hsx hfin
              go_wp2_with fail
              refine (hnx _).mono ?_; rintro e w' ⟨rfl, hw'⟩; obtain rfl := hw'.symm; clear hw'
              go_wp2_with fail
              refine (hpl _).mono ?_; rintro e w' ⟨rfl, hw'⟩; obtain rfl := hw'.symm; clear hw'
              go_wp2_with fail
              refine hr1.mono ?_
              rintro e w1 ⟨rfl, g1⟩
              obtain ⟨hT, hQ, hK, hk, hF, hm0⟩ := HE.out
              replace hk := hk.trans g1
              replace hF := hF.kp g1
              have hr2 := fround_ 1 (by decide) (by decide) K hK bs _ _ w1 hF (hT.grown hk) (Fq.Tab.grown hQ hk)
              rw [HQ.out.2.2] at hr2
              clear hr1 g1 HE
              have HE : Hid (Tab w ∧ Fq.Tab w ∧ K = 1074 ∧ Kp w w1 ∧ Fs w1 bs (tV n0 m0 K) (3000 + 3000 + 1) K) := ⟨hT, hQ, hK, hk, hF⟩
              clear hT hQ hK hk hF hm0
              go_wp2_with fail
              refine (hb1 _).mono ?_; rintro e w' ⟨rfl, hw'⟩; obtain rfl := hw'.symm; clear hw'
              go_wp2_with fail
              refine hr2.mono ?_
              rintro e w2 ⟨rfl, g2⟩
              go_wp2_with fail
              refine (hb1 _).mono ?_; rintro e w' ⟨rfl, hw'⟩; obtain rfl := hw'.symm; clear hw'
              obtain ⟨hT, hQ, hK, hk, hF⟩ := HE.out
              replace hk := hk.trans g2
              replace hF := hF.kp g2
              have hst2 := fstate_ K bs _ _ _ hF
              have hsg2 := fsign_ K hK bs _ _ _ hF
              rw [HQ.out.2.1] at hsg2
              clear HE hr2 g2
              have HE : Hid (Tab w ∧ Fq.Tab w ∧ Kp w w2) := ⟨hT, hQ, hk⟩
              clear hT hQ hK hk hF
              go_wp2_with fail
              refine hst2.mono ?_
              rintro e w' ⟨rfl, hw'⟩; obtain rfl := hw'.symm; clear hw'
              go_wp2_with fail
              refine hsg2.mono ?_
              rintro e w3 ⟨rfl, g3⟩
              go_wp2_with fail
              obtain ⟨hT, hQ, hk⟩ := HE.out
              replace hk := hk.trans g3
              refine (lives_ _ (hT.grown hk) (Fq.Tab.grown hQ hk)).mono ?_
              rintro e w4 ⟨rfl, g4⟩
              go_wp2
              exact bodyPost_ret (v := .bool true) (by simp [results, Tryz.results5, go_sem]) rfl ⟨rfl, hk.trans g4⟩
end Go.Proofs.YtokhnokobkmmkaaGreatDoor
namespace Go.Proofs.YtokhnokobkmmkaaGreatDoor
open Go.RowKit
theorem tcancels_ (K : Nat) (hK : K = 1074) (p : Option Addr) (c : Nat) (L : List Tm) (hok : TmOk L) (x : Nat) (hx : x < 18446744073709551616) (w : World) (ha : ArrT w p L) (hT : Tab w) (hQ : Fq.Tab w) : Calls Tryz.prog 5 #[.slice p L.length c, .int .u64 (x : Int)] w fun e w' => e = .returned (.bool true) ∧ Kp w w' := by
  by_cases h3 : 3000 < L.length
  · exact tcancelsA_ K hK p c L hok h3 x hx w ha hT hQ
  · exact tcancelsB_ K hK p c L hok h3 x hx w ha hT hQ
end Go.Proofs.YtokhnokobkmmkaaGreatDoor
