import Derived.Test.YtokhnokobkmmkaaGreatDoorKG3D
import Derived.Test.YtokhnokobkmmkaaGreatDoorKH3DQ
namespace Go.Proofs.YtokhnokobkmmkaaGreatDoor
open Go.RowKit
set_option maxRecDepth 20000 in
theorem normO (v : Value) (L : List Int) (w : World) (h : Ls w v L) (hw : Wd L) (l : L.length ≤ 1048576) :
    Calls Tryz.prog 111 #[v] w fun e w' => ∃ v', e = .returned v' ∧ Own w' w.heap.size v' (dig (val L)) ∧ Kp w w' := by
  obtain ⟨p, c, rfl, hA, hc⟩ := h
  have h := rnorm_ p c L w hA (by omega)
  rw [nz_dig L hw] at h
  exact h
set_option maxRecDepth 20000 in
theorem zerosR (v : Value) (a : Nat) (w : World) (h : Ls w v (dig a)) (l : blen a ≤ 33554432) :
    Calls Tryz.prog 116 #[v] w fun e w' => e = .returned (.int .i64 (ctz a : Nat)) ∧ w' = w := by
  obtain ⟨p, c, rfl, hA, hc⟩ := h
  have e1 := dlen a 1048576 (by omega)
  have h := rzeros_ p c (dig a) w hA (Wd_dig a) (by omega)
  rw [val_dig] at h
  exact h
set_option maxRecDepth 20000 in
theorem rightO (v : Value) (a m : Nat) (w : World) (h : Ls w v (dig a)) (l : blen a ≤ 33554432) (hm : m ≤ 33554432) :
    Calls Tryz.prog 115 #[v, .int .i64 (m : Int)] w fun e w' => ∃ v' b, e = .returned (.tuple #[v', .bool b]) ∧ Own w' w.heap.size v' (dig (a / 2 ^ m)) ∧ Kp w w' := by
  obtain ⟨p, c, rfl, hA, hc⟩ := h
  have e1 := dlen a 1048576 (by omega)
  have h := rright_ p c m (dig a) w hA (Wd_dig a) (by omega) (by omega)
  rw [val_dig] at h
  exact h.mono fun e w' ⟨v, h1, h2, h3⟩ => ⟨v, _, h1, h2, h3⟩
set_option maxRecDepth 20000 in
theorem leftO (v : Value) (a m : Nat) (w : World) (h : Ls w v (dig a)) (l : blen a ≤ 16777216) (hm : m ≤ 16777216) :
    Calls Tryz.prog 85 #[v, .int .i64 (m : Int)] w fun e w' => ∃ v', e = .returned v' ∧ Own w' w.heap.size v' (dig (a * 2 ^ m)) ∧ Kp w w' := by
  obtain ⟨p, c, rfl, hA, hc⟩ := h
  have h := rleft_ p c m (dig a) w hA (Wd_dig a) (Nat.le_trans (dlen a 524288 (by omega)) (by omega)) hm
  rw [val_dig] at h
  exact h
def ratW (d : Int) (neg : Bool) (a b : Nat) (exp : Int) : Nat := if 16384 < len32 a ∨ 16384 < len32 b then 9221120237041090561 else if b = 0 then (if a = 0 then 9221120237041090561 else mdW neg 9218868437227405312) else if a = 0 then 0 else mdW neg (finU 53 2098 9218868437227405311 9218868437227405312 (dirN neg d) (rV (dirN neg d) 53 a b (exp + 1074)))
theorem refW_fin (d : Int) (g neg : Bool) (a b a2 b2 : Nat) (e : Int) (hF : FracOf a b e a2 b2) (hg : a ≠ 0 → g = neg) (K : Nat) (hK : K = 1074) : refW 53 K 2098 9218868437227405311 0 d g a2 b2 = if a = 0 then 0 else mdW neg (finU 53 2098 9218868437227405311 9218868437227405312 (dirN neg d) (rV (dirN neg d) 53 a b (e + 1074))) := by
  unfold refW
  by_cases c : a = 0
  · rw [if_pos c, if_pos (hF.2.1.2 c)]
  · rw [if_neg c, if_neg (fun h => c (hF.2.1.1 h)), hg c, hF.2.2.1 _ _ _ c, Nat.pow_zero, Nat.mul_one, show ((K : Nat) : Int) + e = e + 1074 from by omega]
    rfl
set_option maxRecDepth 20000 in
set_option maxHeartbeats 400000 in
theorem rbits_ (d : Int) (neg : Bool) (vn vd : Value) (a b : Nat) (w : World) (hn : Ls w vn (dig a)) (hd : Ls w vd (dig b)) (hb : b ≠ 0) (la : blen a ≤ 4194304) (lb : blen b ≤ 4194304) :
    Calls Tryz.prog 29 #[.int .i64 d, .agg #[.bool neg, vn, vd]] w fun e w' => e = .returned (.int .u64 ((refW 53 1074 2098 9218868437227405311 0 d neg a b : Nat) : Int)) ∧ Kp w w' := by
  obtain ⟨w0, hw0⟩ : ∃ w0, w0 = w.alloc (.cells #[.bool neg, vn, vd] 28) := ⟨_, rfl⟩
  have hk0 : Kp w w0 := by rw [hw0]; exact (Kp.refl w).alloc _
  have h := rrounded_D d neg vn vd a b w0 (hn.kp hk0) (hd.kp hk0) hb la lb
  obtain ⟨Z, hZ⟩ : ∃ Z, Z = refW 53 1074 2098 9218868437227405311 0 d neg a b := ⟨_, rfl⟩
  rw [← hZ] at h ⊢
  clear hn hd hb la lb hZ
  go_enter Tryz.func29, Tryz.ntmps29
  go_wp2_with fail
  rw [← hw0]
  refine h.mono ?_; rintro e w1 ⟨rfl, hk⟩
  have hk1 := hk0.trans hk
  clear h hk hk0 hw0
  go_wp2
  exact bodyPost_ret (v := .int .u64 (Z : Int)) (by simp [results, Tryz.results29, go_sem]) rfl ⟨rfl, hk1⟩
theorem rV_zero9 (d : Int) (t : Int) : rV d 53 0 1 t = 0 := by
  unfold rV rU rS rR
  rw [Nat.zero_mul, Nat.zero_div, Nat.zero_mod, upw_none _ _ _ (Nat.mul_pos (Nat.mul_pos (by omega) (Nat.pow_pos (by omega))) (Nat.pow_pos (by omega)))]
  simp
theorem long_iff (a : Nat) : 524288 < blen a ↔ 16384 < len32 a := by
  constructor
  · intro h
    by_cases c : 16384 < len32 a
    · exact c
    · have := blen_len a 16384 (by omega)
      omega
  · intro h
    by_cases c : 524288 < blen a
    · exact c
    · have := dlen a 16384 (by omega)
      unfold len32 at h
      omega
theorem of_rat (d : Int) (neg : Bool) (a : Nat) (exp : Int) : ofW d neg a exp = ratW d neg a 1 exp := by
  unfold ofW ratW
  by_cases c : 524288 < blen a
  · rw [if_pos c, if_pos (Or.inl ((long_iff a).1 c))]
  · rw [if_neg c, if_neg (by rw [len32_one]; have := mt (long_iff a).2 c; omega), if_neg (by decide)]
    by_cases c0 : a = 0
    · have hz : ∀ (dd t : Int), rV dd 53 0 1 t = 0 := fun dd t => rV_zero9 dd t
      rw [if_pos c0, c0, hz]
      have hf : ∀ dd : Int, finU 53 2098 9218868437227405311 9218868437227405312 dd 0 = 0 := fun dd => by unfold finU; rw [blen_zero, if_pos (by omega), rgU_zero]
      rw [hf]; rfl
    · rw [if_neg c0]
      have hb := (blen_spec a c0).2.2
      have hpm : ∀ R, pW 9223372036854775808 neg R = mdW neg R := fun R => rfl
      rw [hpm]
      by_cases ce : conf exp = exp
      · rw [ce]
      · refine congrArg (mdW neg) (fin_clamp (dirN neg d) a 1 a 1 (conf exp + 1074) (exp + 1074) c0 (by decide) c0 (by decide) ?_)
        rw [show blen 1 = 1 from blen_uniq 1 0 (by decide) (by decide)]
        unfold conf at ce ⊢
        omega
end Go.Proofs.YtokhnokobkmmkaaGreatDoor
