import Derived.Test.YtjkbapnndoldgaaKEK
import Derived.Test.YtjkbapnndoldgaaKES
import Derived.Test.YtjkbapnndoldgaaKXA0
namespace Go.Proofs.Ytjkbapnndoldgaa
open Go.RowKit
namespace Sg
open Fq

def pla (x : Nat) : Nat := if x = 2147483648 then 0 else x
open Ieee in
theorem feq (n n' : Bool) (m m' : Nat) (h : m < 2147483648) (h' : m' < 2147483648) : (FloatKind.f32.format.order (wS n m) (wS n' m') == some Ordering.eq) = decide (m ≤ 2139095040 ∧ m' ≤ 2139095040 ∧ plz n m = plz n' m') := by
  by_cases c : 2139095040 < m
  · rw [ordS_nanl n m _ c h, decide_eq_false (by omega)]; rfl
  by_cases c' : 2139095040 < m'
  · rw [ordS_nanr n' m' _ c' h', decide_eq_false (by omega)]; rfl
  rw [ordS n n' m m' (by omega) (by omega)]
  by_cases e : plz n m = plz n' m'
  · rw [cmp_eq e, decide_eq_true ⟨by omega, by omega, e⟩]; rfl
  · rw [decide_eq_false (fun x => e x.2.2)]
    rcases Int.lt_or_gt_of_ne e with g | g
    · rw [cmp_lt g]; rfl
    · rw [cmp_gt g]; rfl
open Ieee in
theorem fle (n n' : Bool) (m m' : Nat) (h : m < 2147483648) (h' : m' < 2147483648) : (FloatKind.f32.format.order (wS n m) (wS n' m') == some Ordering.lt || FloatKind.f32.format.order (wS n m) (wS n' m') == some Ordering.eq) = decide (m ≤ 2139095040 ∧ m' ≤ 2139095040 ∧ plz n m ≤ plz n' m') := by
  by_cases c : 2139095040 < m
  · rw [ordS_nanl n m _ c h, decide_eq_false (by omega)]; rfl
  by_cases c' : 2139095040 < m'
  · rw [ordS_nanr n' m' _ c' h', decide_eq_false (by omega)]; rfl
  rw [ordS n n' m m' (by omega) (by omega)]
  rcases Int.lt_trichotomy (plz n m) (plz n' m') with g | g | g
  · rw [cmp_lt g, decide_eq_true ⟨by omega, by omega, by omega⟩]; rfl
  · rw [cmp_eq g, decide_eq_true ⟨by omega, by omega, by omega⟩]; rfl
  · rw [cmp_gt g, decide_eq_false (by omega)]; rfl
theorem feqI (x : Nat) (h : x < 4294967296) : (FloatKind.f32.format.order x 2139095040 == some Ordering.eq) = decide (x = 2139095040) := by
  obtain ⟨n, m, hm, rfl⟩ := exS x h
  have g := feq n false m 2139095040 hm (by decide)
  rw [show wS false 2139095040 = 2139095040 from rfl] at g
  rw [g]; congr 1; apply propext
  unfold plz wS
  cases n <;> simp <;> omega
theorem feqM (x : Nat) (h : x < 4294967296) : (FloatKind.f32.format.order x 4286578688 == some Ordering.eq) = decide (x = 4286578688) := by
  obtain ⟨n, m, hm, rfl⟩ := exS x h
  have g := feq n true m 2139095040 hm (by decide)
  rw [show wS true 2139095040 = 4286578688 from rfl] at g
  rw [g]; congr 1; apply propext
  unfold plz wS
  cases n <;> simp <;> omega
def snd (a b : Nat) : Bool := (FloatKind.f32.format.order a b == some Ordering.lt || FloatKind.f32.format.order a b == some Ordering.eq) && (!(decide (a = 2139095040)) && !(decide (b = 4286578688)))
def rlo (a b : Nat) : Nat := if snd a b then pla a else 2139095040
def rhi (a b : Nat) : Nat := if snd a b then pla b else 4286578688
theorem pla_lt (x : Nat) (h : x < 4294967296) : pla x < 4294967296 := by unfold pla; split <;> omega
theorem snd_w (n n' : Bool) (m m' : Nat) (h : m < 2147483648) (h' : m' < 2147483648) : snd (wS n m) (wS n' m') = decide (m ≤ 2139095040 ∧ m' ≤ 2139095040 ∧ plz n m ≤ plz n' m' ∧ ¬ (n = false ∧ m = 2139095040) ∧ ¬ (n' = true ∧ m' = 2139095040)) := by
  unfold snd
  rw [fle n n' m m' h h']
  have e1 : (wS n m = 2139095040) ↔ (n = false ∧ m = 2139095040) := by unfold wS; cases n <;> simp; omega
  have e2 : (wS n' m' = 4286578688) ↔ (n' = true ∧ m' = 2139095040) := by unfold wS; cases n' <;> simp <;> omega
  simp only [e1, e2]
  by_cases c1 : m ≤ 2139095040 ∧ m' ≤ 2139095040 ∧ plz n m ≤ plz n' m' <;> by_cases c2 : n = false ∧ m = 2139095040 <;> by_cases c3 : n' = true ∧ m' = 2139095040 <;> simp [c1, c2, c3]

def pw (z : Int) : Nat := Fq.wS (decide (z < 0)) z.natAbs
def BdZ (z : Int) : Prop := -2139095040 ≤ z ∧ z ≤ 2139095040
theorem plz_pw (z : Int) : Fq.plz (decide (z < 0)) z.natAbs = z := by
  unfold Fq.plz
  by_cases c : z < 0 <;> simp [c] <;> omega
theorem abs_pw (z : Int) (h : BdZ z) : z.natAbs ≤ 2139095040 := by unfold BdZ at h; omega
theorem pw_lt (z : Int) (h : BdZ z) : pw z < 4294967296 := by
  have := abs_pw z h
  unfold pw Fq.wS; split <;> omega
theorem pw_ne (z : Int) (h : BdZ z) : pw z ≠ 2147483648 := by
  have h2 := abs_pw z h
  unfold pw Fq.wS
  by_cases c : z < 0 <;> simp [c] <;> omega
theorem pla_pw (z : Int) (h : BdZ z) : pla (pw z) = pw z := by unfold pla; rw [if_neg (pw_ne z h)]
theorem pw_I : pw 2139095040 = 2139095040 := by decide
theorem pw_MI : pw (-2139095040) = 4286578688 := by decide
theorem ord_pw (x y : Int) (hx : BdZ x) (hy : BdZ y) : FloatKind.f32.format.order (pw x) (pw y) = some (compare x y) := by
  have h := Fq.ordS (decide (x < 0)) (decide (y < 0)) x.natAbs y.natAbs (abs_pw x hx) (abs_pw y hy)
  rw [plz_pw, plz_pw] at h
  exact h
theorem plt9 (x y : Int) (hx : BdZ x) (hy : BdZ y) : (FloatKind.f32.format.order (pw x) (pw y) == some Ordering.lt) = decide (x < y) := by
  rw [ord_pw x y hx hy]
  rcases Int.lt_trichotomy x y with g | g | g
  · rw [Fq.cmp_lt g, decide_eq_true g]; rfl
  · rw [Fq.cmp_eq g, decide_eq_false (by omega)]; rfl
  · rw [Fq.cmp_gt g, decide_eq_false (by omega)]; rfl
theorem peq9 (x y : Int) (hx : BdZ x) (hy : BdZ y) : (FloatKind.f32.format.order (pw x) (pw y) == some Ordering.eq) = decide (x = y) := by
  rw [ord_pw x y hx hy]
  rcases Int.lt_trichotomy x y with g | g | g
  · rw [Fq.cmp_lt g, decide_eq_false (by omega)]; rfl
  · rw [Fq.cmp_eq g, decide_eq_true g]; rfl
  · rw [Fq.cmp_gt g, decide_eq_false (by omega)]; rfl
theorem ple9 (x y : Int) (hx : BdZ x) (hy : BdZ y) : (FloatKind.f32.format.order (pw x) (pw y) == some Ordering.lt || FloatKind.f32.format.order (pw x) (pw y) == some Ordering.eq) = decide (x ≤ y) := by
  rw [plt9 x y hx hy, peq9 x y hx hy]
  by_cases c : x < y <;> by_cases c2 : x = y <;> simp [c, c2] <;> omega
theorem pw_inj (x y : Int) (hx : BdZ x) (hy : BdZ y) : pw x = pw y ↔ x = y := by
  constructor
  · intro h
    have e := peq9 x y hx hy
    have e2 := peq9 y y hy hy
    rw [h, e2] at e
    by_cases c : x = y
    · exact c
    · simp [c] at e
  · intro h; rw [h]
def VdZ (L H : Int) : Prop := (L = 2139095040 ∧ H = -2139095040) ∨ (-2139095040 ≤ L ∧ L < 2139095040 ∧ -2139095040 < H ∧ H ≤ 2139095040 ∧ L ≤ H)
theorem VdZ.lo {L H : Int} (h : VdZ L H) : BdZ L := by unfold VdZ at h; unfold BdZ; omega
theorem VdZ.hi {L H : Int} (h : VdZ L H) : BdZ H := by unfold VdZ at h; unfold BdZ; omega
theorem pw_plz (n : Bool) (m : Nat) (h : Fq.wS n m ≠ 2147483648) (hm : m ≤ 2139095040) : pw (Fq.plz n m) = Fq.wS n m ∧ BdZ (Fq.plz n m) := by
  cases n
  · have e : Fq.plz false m = (m : Int) := by simp [Fq.plz]
    rw [e]
    refine ⟨?_, by unfold BdZ; omega⟩
    unfold pw
    rw [show decide ((m : Int) < 0) = false from decide_eq_false (by omega), show ((m : Int)).natAbs = m from by omega]
  · have e : Fq.plz true m = -(m : Int) := by simp [Fq.plz]
    have z : m ≠ 0 := by intro z; apply h; rw [z]; rfl
    rw [e]
    refine ⟨?_, by unfold BdZ; omega⟩
    unfold pw
    rw [show decide (-(m : Int) < 0) = true from decide_eq_true (by omega), show (-(m : Int)).natAbs = m from by omega]
theorem snd_pw (L H : Int) (hL : BdZ L) (hH : BdZ H) : snd (pw L) (pw H) = decide (L ≤ H ∧ L ≠ 2139095040 ∧ H ≠ -2139095040) := by
  unfold snd
  rw [ple9 L H hL hH]
  have e1 : (pw L = 2139095040) ↔ L = 2139095040 := by
    have h := pw_inj L 2139095040 hL (by unfold BdZ; omega)
    rw [pw_I] at h; exact h
  have e2 : (pw H = 4286578688) ↔ H = -2139095040 := by
    have h := pw_inj H (-2139095040) hH (by unfold BdZ; omega)
    rw [pw_MI] at h; exact h
  simp only [e1, e2]
  by_cases c1 : L ≤ H <;> by_cases c2 : L = 2139095040 <;> by_cases c3 : H = -2139095040 <;> simp [c1, c2, c3]
theorem rlo_pw (L H : Int) (hL : BdZ L) (hH : BdZ H) : rlo (pw L) (pw H) = pw (if L ≤ H ∧ L ≠ 2139095040 ∧ H ≠ -2139095040 then L else 2139095040) := by
  unfold rlo
  rw [snd_pw L H hL hH, pla_pw L hL]
  by_cases c : L ≤ H ∧ L ≠ 2139095040 ∧ H ≠ -2139095040
  · rw [if_pos c, if_pos (decide_eq_true c)]
  · rw [if_neg c, if_neg (by simpa using c), pw_I]
theorem rhi_pw (L H : Int) (hL : BdZ L) (hH : BdZ H) : rhi (pw L) (pw H) = pw (if L ≤ H ∧ L ≠ 2139095040 ∧ H ≠ -2139095040 then H else -2139095040) := by
  unfold rhi
  rw [snd_pw L H hL hH, pla_pw H hH]
  by_cases c : L ≤ H ∧ L ≠ 2139095040 ∧ H ≠ -2139095040
  · rw [if_pos c, if_pos (decide_eq_true c)]
  · rw [if_neg c, if_neg (by simpa using c), pw_MI]
theorem read_pw (a b : Nat) (ha : a < 4294967296) (hb : b < 4294967296) : ∃ L H, VdZ L H ∧ rlo a b = pw L ∧ rhi a b = pw H := by
  by_cases c : snd a b = true
  · obtain ⟨n, m, hm, rfl⟩ := Fq.exS a ha
    obtain ⟨n', m', hm', rfl⟩ := Fq.exS b hb
    have es := snd_w n n' m m' hm hm'
    rw [c] at es
    have es := of_decide_eq_true es.symm
    have key : ∀ (g : Bool) (r : Nat), r ≤ 2139095040 → pw (Fq.plz g r) = pla (Fq.wS g r) ∧ BdZ (Fq.plz g r) := by
      intro g r hr
      by_cases c2 : Fq.wS g r = 2147483648
      · have hg : g = true ∧ r = 0 := by
          unfold Fq.wS at c2
          cases g
          · simp at c2; omega
          · simp at c2; exact ⟨rfl, c2⟩
        rw [c2, hg.1, hg.2]
        exact ⟨by decide, by unfold BdZ Fq.plz; simp⟩
      · have h := pw_plz g r c2 hr
        rw [show pla (Fq.wS g r) = Fq.wS g r from by simp [pla, c2]]
        exact h
    have k1 := key n m es.1
    have k2 := key n' m' es.2.1
    refine ⟨Fq.plz n m, Fq.plz n' m', Or.inr ?_, ?_, ?_⟩
    · have b1 := k1.2
      have b2 := k2.2
      unfold BdZ at b1 b2
      have e1 : Fq.plz n m ≠ 2139095040 := by
        intro h
        apply es.2.2.2.1
        unfold Fq.plz at h
        cases n
        · simp at h; exact ⟨rfl, by omega⟩
        · simp at h; omega
      have e2 : Fq.plz n' m' ≠ -2139095040 := by
        intro h
        apply es.2.2.2.2
        unfold Fq.plz at h
        cases n'
        · simp at h <;> omega
        · simp at h; exact ⟨rfl, by omega⟩
      have := es.2.2.1
      omega
    · rw [k1.1]; simp [rlo, c]
    · rw [k2.1]; simp [rhi, c]
  · refine ⟨2139095040, -2139095040, Or.inl ⟨rfl, rfl⟩, ?_, ?_⟩
    · rw [pw_I]; unfold rlo; rw [if_neg c]
    · rw [pw_MI]; unfold rhi; rw [if_neg c]
theorem reread9 (L H : Int) (h : VdZ L H) : rlo (pw L) (pw H) = pw L ∧ rhi (pw L) (pw H) = pw H := by
  rw [rlo_pw L H h.lo h.hi, rhi_pw L H h.lo h.hi]
  rcases h with ⟨rfl, rfl⟩ | h
  · exact ⟨by rw [if_neg (by omega)], by rw [if_neg (by omega)]⟩
  · exact ⟨by rw [if_pos (by omega)], by rw [if_pos (by omega)]⟩
end Sg
end Go.Proofs.Ytjkbapnndoldgaa
