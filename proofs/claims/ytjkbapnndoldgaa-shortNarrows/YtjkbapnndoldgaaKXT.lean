import Derived.Test.YtjkbapnndoldgaaKHB
import Derived.Test.YtjkbapnndoldgaaKXY
namespace Go.Proofs.Ytjkbapnndoldgaa
open Go.RowKit
set_option maxRecDepth 20000 in
set_option maxHeartbeats 1000000 in
theorem words_ (p : Option Addr) (c : Nat) (xs : List Int) (w : World) (hx : Arr w p xs) (lx : xs.length ≤ 1099511627776) :
    Calls Try.prog 114 #[.slice p xs.length c] w fun e w' => e = .returned (.int .i64 (tl xs : Int)) ∧ w' = w := by
  obtain ⟨N, hN⟩ : ∃ N, N = xs.length := ⟨_, rfl⟩
  rw [← hN] at lx ⊢
  have HX : Hid (Arr w p xs) := hx
  have HN : Hid (N = xs.length) := hN
  obtain ⟨T, hT⟩ : ∃ T, T = tl xs := ⟨_, rfl⟩
  rw [← hT]
  have HT : Hid (tlAux xs N = T) := by rw [hT, hN]; exact rfl
  have hT2 : T ≤ N := by rw [hT, hN]; exact tl_le xs
  clear hN hx hT
  go_enter Try.func114, Try.ntmps114
  go_wp2
  go_loop [3] (fun i => ∃ k : Nat, i = .int .i64 k ∧ k ≤ N ∧ tlAux xs k = T) (fun i => (intOf i).toNat)
  case atStart => exact ⟨N, rfl, Nat.le_refl _, HT.out⟩
  case round =>
    obtain ⟨k, rfl, hk, ht⟩ := hrel
    have hN := HN.out
    rcases k with _ | k
    · have hT0 : T = 0 := by rw [← ht]; rfl
      subst hT0
      clear hN HN HX HT ht hk
      go_wp2
      exact bodyPost_ret (v := .int .i64 0) (by simp [results, Try.results114, go_sem] <;> simp only [*]) rfl ⟨rfl, rfl⟩
    · obtain ⟨b, off, rfl, hc'⟩ := HX.out.at (k := k) (by omega)
      have e1 := hc' k (by omega)
      have f1 : (((k + 1 : Nat) : Int) - 1) = (k : Int) := by omega
      by_cases cz : xs.getD k 0 = 0
      · rw [tlAux_zero xs k cz] at ht
        rw [cz] at e1
        clear hN HN HX HT hc'
        go_wp2
        exact ⟨⟨k, by go_num, by omega, ht⟩, by simp [intOf]⟩
      · rw [tlAux_nz xs k cz] at ht
        subst ht
        obtain ⟨X, hX⟩ : ∃ X, X = xs.getD k 0 := ⟨_, rfl⟩
        rw [← hX] at e1 cz
        have t1 : (X == 0) = false := by simp [cz]
        clear hN HN HX HT hc' hX cz
        go_wp2
        exact bodyPost_ret (v := .int .i64 ((k + 1 : Nat) : Int)) (by simp [results, Try.results114, go_sem] <;> simp only [*]) rfl ⟨rfl, rfl⟩
def Ls (w : World) (v : Value) (L : List Int) : Prop := ∃ p c, v = .slice p L.length c ∧ Arr w p L ∧ L.length ≤ c
theorem Ls.kp {w w' : World} {v : Value} {L : List Int} (h : Ls w v L) (k : Kp w w') : Ls w' v L := by
  obtain ⟨p, c, e, hA, hc⟩ := h
  exact ⟨p, c, e, hA.grown k, hc⟩
theorem Own.ls {w : World} {base : Nat} {v : Value} {L : List Int} (h : Own w base v L) : Ls w v L := by
  obtain ⟨p, c, e, hA, hc⟩ := h.arr
  exact ⟨p, c, e, hA, hc⟩
theorem dlen (a K : Nat) (h : blen a ≤ 32 * K) : (dig a).length ≤ K := by
  have h1 := (blen_le_iff a (32 * K)).1 h
  rw [← pow32] at h1
  by_cases c : (dig a).length ≤ K
  · exact c
  · exfalso
    have := len32_lt a K (by unfold len32; omega)
    omega
end Go.Proofs.Ytjkbapnndoldgaa
