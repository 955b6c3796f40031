import Derived.Test.YthajkngngdnidaaProg
import Derived.Test.YthajkngngdnidaaKXA0
import Derived.Test.YthajkngngdnidaaKQM
import Derived.Test.YthajkngngdnidaaKQA
import Derived.Test.YthajkngngdnidaaKXQU
import Derived.Test.YthajkngngdnidaaKEM
import Derived.Test.YthajkngngdnidaaKEN
import Derived.Test.YthajkngngdnidaaKEA
import Derived.Test.YthajkngngdnidaaKEB
import Derived.Test.YthajkngngdnidaaKEH
import Derived.Test.YthajkngngdnidaaKEK
import Derived.Test.YthajkngngdnidaaKEO
import Derived.Test.YthajkngngdnidaaKER
import Derived.Test.YthajkngngdnidaaKES
import Derived.Test.YthajkngngdnidaaKNRv
import Derived.Test.YthajkngngdnidaaKNRm
import Derived.Test.YthajkngngdnidaaKNRa
import Derived.Test.YthajkngngdnidaaKNRj
import Derived.Test.YthajkngngdnidaaKNCo
import Derived.Test.YthajkngngdnidaaKNCm
import Derived.WalkKit
import Derived.ProofKit
import Derived.RowKit3
import Derived.WalkSpells
import Derived.StillTactics
import Derived.Deep.QuietTactic
import Derived.BigQuiet
import Derived.Below
import Derived.Deep.OwnRows
import Derived.OwnWalk
import Derived.Laws.BitsAllLaws
import Derived.Laws.Slices
import Derived.Laws.Bits64b
import Derived.Laws.FloatArith
import Derived.Deep.RegionHeld3
import Derived.Deep.CutRange
import Derived.Deep.DeepCutAuto
namespace Go.Proofs.Ythajkngngdnidaa
open Go.RowKit

def ix : List Int → Int → Nat
  | [], _ => 0
  | c :: cs, x => if c = x then 0 else ix cs x + 1
theorem ix_hit (cs : List Int) (x : Int) (k : Nat) (hk : k < cs.length) (h : ∀ i, i < k → cs.getD i 0 ≠ x) (e : cs.getD k 0 = x) : ix cs x = k := by
  induction cs generalizing k with
  | nil => simp at hk
  | cons c cs ih =>
    cases k with
    | zero => simp at e; simp [ix, e]
    | succ k =>
      have h0 := h 0 (by omega)
      simp at h0
      rw [ix, if_neg h0, ih k (by simpa using hk) (fun i hi => by simpa using h (i + 1) (by omega)) (by simpa using e)]
theorem ix_none (cs : List Int) (x : Int) (h : ∀ i, i < cs.length → cs.getD i 0 ≠ x) : ix cs x = cs.length := by
  induction cs with
  | nil => rfl
  | cons c cs ih =>
    have h0 := h 0 (by simp)
    simp at h0
    rw [ix, if_neg h0, ih (fun i hi => by simpa using h (i + 1) (by simpa using hi))]
    simp
/-- the place of an end among the cuts -/
def plN (cs : List Int) (x : Int) : Nat := if x = -9218868437227405312 then 0 else 4 * (ix cs x + 1)
theorem pI_MI : pI (-9218868437227405312) = 18442240474082181120 := by decide
set_option maxRecDepth 20000 in
set_option maxHeartbeats 2000000 in
theorem place_ (x : Int) (hx : BdZ x) (cs : List Int) (hc : ∀ i, i < cs.length → BdZ (cs.getD i 0)) (hl : cs.length ≤ 4) (p : Option Addr) (K c base : Nat) (hK : K = cs.length) (w : World) (hown : U9.Own w base (.slice p K c) (cs.map pI)) : Calls Try.prog 61 #[.int .u64 (pI x), .slice p K c] w fun e w' => e = .returned (.int .i64 ((plN cs x : Nat) : Int)) ∧ w' = w := by
  obtain ⟨p', c', hv, harr, _⟩ := hown.arr
  have hp : p = p' := by injection hv
  rw [← hp] at harr
  have HK : Hid (K = cs.length) := hK
  have HR : Hid (U9.Arr w p (cs.map pI)) := harr
  have HX : Hid (BdZ x) := hx
  have HC : Hid (∀ i, i < cs.length → BdZ (cs.getD i 0)) := hc
  have hK4 : K ≤ 4 := by omega
  clear hown hv harr hp hc hl hK hx
  by_cases c1 : x = -9218868437227405312
  · have t1 : (pI x == 18442240474082181120) = true := by rw [c1, pI_MI]; rfl
    rw [show plN cs x = 0 from by unfold plN; rw [if_pos c1]]
    generalize pI x = X at t1 ⊢
    clear c1 HC HX HR HK
    go_enter Try.func61, Try.ntmps61
    go_wp2
    exact bodyPost_ret (v := .int .i64 0) (by simp [results, Try.results61, go_sem]) rfl ⟨rfl, rfl⟩
  · have t1 : (pI x == 18442240474082181120) = false := by
      have h := pI_inj x (-9218868437227405312) HX.out (by unfold BdZ; omega)
      rw [pI_MI] at h
      simpa using fun e => c1 (h.1 e)
    have HP : Hid (plN cs x = 4 * (ix cs x + 1)) := by unfold plN; rw [if_neg c1]; trivial
    have HE : Hid (∀ i, i < cs.length → (pI (cs.getD i 0) = pI x ↔ cs.getD i 0 = x)) := fun i hi => pI_inj _ _ (HC.out i hi) HX.out
    obtain ⟨X, hX⟩ : ∃ X, X = pI x := ⟨_, rfl⟩
    rw [← hX] at t1 HE ⊢
    generalize plN cs x = PL at HP ⊢
    clear c1 hX HC HX
    go_enter Try.func61, Try.ntmps61
    go_wp2
    go_loop [5] (fun i => ∃ k : Nat, i = .int .i64 k ∧ k ≤ K ∧ Hid (∀ i, i < k → cs.getD i 0 ≠ x)) (fun i => K - (intOf i).toNat)
    case atStart => exact ⟨0, rfl, Nat.zero_le _, fun i hi => by omega⟩
    case round =>
      obtain ⟨k, rfl, hk, HH⟩ := hrel
      have hKe := HK.out
      have hPe := HP.out
      by_cases ck : k < K
      · obtain ⟨b, off, rfl, hc'⟩ := HR.out.at (k := k) (by simp; omega)
        have e1 := hc' k (by simp; omega)
        rw [show (cs.map pI).getD k 0 = pI (cs.getD k 0) from by simp [List.getD, show k < cs.length from by omega]] at e1
        have he := HE.out k (by omega)
        by_cases c2 : cs.getD k 0 = x
        · have hix := ix_hit cs x k (by omega) HH.out c2
          have t2 : (pI (cs.getD k 0) == X) = true := by simpa using he.2 c2
          have hPL : ((PL : Nat) : Int) = 4 * ((k : Int) + 1) := by rw [hPe, hix]; omega
          generalize pI (cs.getD k 0) = Y at e1 t2
          clear hix c2 he hc' HH HE HP HR HK hKe hPe
          have HPL : Hid (((PL : Nat) : Int) = 4 * ((k : Int) + 1)) := hPL
          clear hPL
          go_wp2
          exact bodyPost_ret (v := .int .i64 (4 * ((k : Int) + 1))) (by simp [results, Try.results61, go_sem]) rfl ⟨by rw [HPL.out], rfl⟩
        · have t2 : (pI (cs.getD k 0) == X) = false := by simpa using fun h => c2 (he.1 h)
          have hN : Hid (∀ i, i < k + 1 → cs.getD i 0 ≠ x) := fun i hi => by
            by_cases e : i = k
            · rw [e]; exact c2
            · exact HH.out i (by omega)
          generalize pI (cs.getD k 0) = Y at e1 t2
          clear c2 he hc' HH HE HP HR HK hKe hPe
          go_wp2
          exact ⟨⟨k + 1, by go_num, by omega, hN⟩, by simp [intOf]; omega⟩
      · have hix := ix_none cs x (fun i hi => HH.out i (by omega))
        have hPL : ((PL : Nat) : Int) = 4 * ((K : Int) + 1) := by rw [hPe, hix, hKe]; omega
        clear hix HH HE HP HR HK hKe hPe
        have HPL : Hid (((PL : Nat) : Int) = 4 * ((K : Int) + 1)) := hPL
        clear hPL
        go_wp2
        exact bodyPost_ret (v := .int .i64 (4 * ((K : Int) + 1))) (by simp [results, Try.results61, go_sem]) rfl ⟨by rw [HPL.out], rfl⟩
end Go.Proofs.Ythajkngngdnidaa
