import Derived.Test.YtnjlcfpkhgmjeaaGreatDoorKBW
import Derived.Test.YtnjlcfpkhgmjeaaGreatDoorKXO
import Derived.Test.YtnjlcfpkhgmjeaaGreatDoorKXRL
namespace Go.Proofs.YtnjlcfpkhgmjeaaGreatDoor
open Go.RowKit
def ByS (w wq : World) (pu pv : Option Addr) (us vs qs : List Int) (gq L : Nat) : Prop := Arr wq pu us ∧ Arr wq pv vs ∧ Rw wq gq L qs ∧ Kp w wq
theorem arr_kb {g : Nat} {w w' : World} {p : Option Addr} {xs : List Int} (h : Arr w p xs) (k : Kb g w w') (hne : ∀ b off, p = some ⟨b, off, none⟩ → b ≠ g) : Arr w' p xs := by
  rcases h with h | ⟨b, off, h1, h2⟩
  · exact Or.inl h
  · exact Or.inr ⟨b, off, h1, fun j hj => k.arr (hne b off h1) (h2 j hj)⟩
theorem ByS.kb {w wq w' : World} {pu pv : Option Addr} {us vs qs : List Int} {gq L g : Nat} (h : ByS w wq pu pv us vs qs gq L) (k : Kb g wq w') (h1 : ∀ b off, pu = some ⟨b, off, none⟩ → b ≠ g) (h2 : ∀ b off, pv = some ⟨b, off, none⟩ → b ≠ g) (h3 : gq ≠ g) (h4 : w.heap.size ≤ g) : ByS w w' pu pv us vs qs gq L :=
  ⟨arr_kb h.1 k h1, arr_kb h.2.1 k h2, h.2.2.1.kb k h3, k.kp h.2.2.2 h4⟩
theorem ByS.kp {w wq w' : World} {pu pv : Option Addr} {us vs qs : List Int} {gq L : Nat} (h : ByS w wq pu pv us vs qs gq L) (k : Kp wq w') : ByS w w' pu pv us vs qs gq L :=
  ⟨h.1.grown k, h.2.1.grown k, h.2.2.1.grown k, h.2.2.2.trans k⟩
set_option maxRecDepth 20000 in
theorem lenR (v : Value) (a : Nat) (w : World) (h : Ls w v (dig a)) (l : blen a ≤ 33554432) :
    Calls Tryz.prog 23 #[v] w fun e w' => e = .returned (.int .i64 (blen a : Nat)) ∧ w' = w := by
  obtain ⟨p, c, rfl, hA, hc⟩ := h
  have e1 := dlen a 1048576 (by omega)
  have h := rlen_ p c (dig a) w hA (Wd_dig a) (by omega)
  rw [val_dig] at h
  exact h
set_option maxRecDepth 20000 in
theorem normO (v : Value) (L : List Int) (w : World) (h : Ls w v L) (hw : Wd L) (l : L.length ≤ 1048576) :
    Calls Tryz.prog 57 #[v] w fun e w' => ∃ v', e = .returned v' ∧ Own w' w.heap.size v' (dig (val L)) ∧ Kp w w' := by
  obtain ⟨p, c, rfl, hA, hc⟩ := h
  have h := rnorm_ p c L w hA (by omega)
  rw [nz_dig L hw] at h
  exact h
set_option maxRecDepth 20000 in
theorem zerosR (v : Value) (a : Nat) (w : World) (h : Ls w v (dig a)) (l : blen a ≤ 33554432) :
    Calls Tryz.prog 85 #[v] w fun e w' => e = .returned (.int .i64 (ctz a : Nat)) ∧ w' = w := by
  obtain ⟨p, c, rfl, hA, hc⟩ := h
  have e1 := dlen a 1048576 (by omega)
  have h := rzeros_ p c (dig a) w hA (Wd_dig a) (by omega)
  rw [val_dig] at h
  exact h
set_option maxRecDepth 20000 in
theorem rightO (v : Value) (a m : Nat) (w : World) (h : Ls w v (dig a)) (l : blen a ≤ 33554432) (hm : m ≤ 33554432) :
    Calls Tryz.prog 86 #[v, .int .i64 (m : Int)] w fun e w' => ∃ v' b, e = .returned (.tuple #[v', .bool b]) ∧ Own w' w.heap.size v' (dig (a / 2 ^ m)) ∧ Kp w w' := by
  obtain ⟨p, c, rfl, hA, hc⟩ := h
  have e1 := dlen a 1048576 (by omega)
  have h := rright_ p c m (dig a) w hA (Wd_dig a) (by omega) (by omega)
  rw [val_dig] at h
  exact h.mono fun e w' ⟨v, h1, h2, h3⟩ => ⟨v, _, h1, h2, h3⟩
set_option maxRecDepth 20000 in
theorem leftO (v : Value) (a m : Nat) (w : World) (h : Ls w v (dig a)) (l : blen a ≤ 16777216) (hm : m ≤ 16777216) :
    Calls Tryz.prog 22 #[v, .int .i64 (m : Int)] w fun e w' => ∃ v', e = .returned v' ∧ Own w' w.heap.size v' (dig (a * 2 ^ m)) ∧ Kp w w' := by
  obtain ⟨p, c, rfl, hA, hc⟩ := h
  have h := rleft_ p c m (dig a) w hA (Wd_dig a) (Nat.le_trans (dlen a 524288 (by omega)) (by omega)) hm
  rw [val_dig] at h
  exact h
def ratW (d : Int) (neg : Bool) (a b : Nat) (exp : Int) : Nat := if 16384 < len32 a ∨ 16384 < len32 b then 9221120237041090561 else if b = 0 then (if a = 0 then 9221120237041090561 else mdW neg 9218868437227405312) else if a = 0 then 0 else mdW neg (finU 53 2098 9218868437227405311 9218868437227405312 (dirN neg d) (rV (dirN neg d) 53 a b (exp + 1074)))
theorem rV_zero9 (d : Int) (t : Int) : rV d 53 0 1 t = 0 := by
  unfold rV rU rS rR
  rw [Nat.zero_mul, Nat.zero_div, Nat.zero_mod, upw_none _ _ _ (Nat.mul_pos (Nat.mul_pos (by omega) (Nat.pow_pos (by omega))) (Nat.pow_pos (by omega)))]
  simp
theorem long_iff (a : Nat) : 524288 < blen a ↔ 16384 < len32 a := by
  constructor
  · intro h
    by_cases c : 16384 < len32 a
    · exact c
    · have := blen_len a 16384 (by omega)
      omega
  · intro h
    by_cases c : 524288 < blen a
    · exact c
    · have := dlen a 16384 (by omega)
      unfold len32 at h
      omega
theorem of_rat (d : Int) (neg : Bool) (a : Nat) (exp : Int) : ofW d neg a exp = ratW d neg a 1 exp := by
  unfold ofW ratW
  by_cases c : 524288 < blen a
  · rw [if_pos c, if_pos (Or.inl ((long_iff a).1 c))]
  · rw [if_neg c, if_neg (by rw [len32_one]; have := mt (long_iff a).2 c; omega), if_neg (by decide)]
    by_cases c0 : a = 0
    · have hz : ∀ (dd t : Int), rV dd 53 0 1 t = 0 := fun dd t => rV_zero9 dd t
      rw [if_pos c0, c0, hz]
      have hf : ∀ dd : Int, finU 53 2098 9218868437227405311 9218868437227405312 dd 0 = 0 := fun dd => by unfold finU; rw [blen_zero, if_pos (by omega), rgU_zero]
      rw [hf]; rfl
    · rw [if_neg c0]
      have hb := (blen_spec a c0).2.2
      have hpm : ∀ R, pW 9223372036854775808 neg R = mdW neg R := fun R => rfl
      rw [hpm]
      by_cases ce : conf exp = exp
      · rw [ce]
      · refine congrArg (mdW neg) (fin_clamp (dirN neg d) a 1 a 1 (conf exp + 1074) (exp + 1074) c0 (by decide) c0 (by decide) ?_)
        rw [show blen 1 = 1 from blen_uniq 1 0 (by decide) (by decide)]
        unfold conf at ce ⊢
        omega
end Go.Proofs.YtnjlcfpkhgmjeaaGreatDoor
