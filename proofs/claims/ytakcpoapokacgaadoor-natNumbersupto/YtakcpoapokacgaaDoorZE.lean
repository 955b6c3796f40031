import Derived.Test.YtakcpoapokacgaaDoorProg
import Derived.Test.YtakcpoapokacgaaDoorA
import Derived.Test.YtakcpoapokacgaaDoorA2
import Derived.Test.YtakcpoapokacgaaDoorA3
import Derived.Test.YtakcpoapokacgaaDoorA4
import Derived.Test.YtakcpoapokacgaaDoorMN
import Derived.Test.YtakcpoapokacgaaDoorMV
import Derived.Test.YtakcpoapokacgaaDoorMP
import Derived.Test.YtakcpoapokacgaaDoorMD
import Derived.Test.YtakcpoapokacgaaDoorMS
import Derived.Test.YtakcpoapokacgaaDoorMC
import Derived.Test.YtakcpoapokacgaaDoorT1
import Derived.Test.YtakcpoapokacgaaDoorT2
import Derived.Test.YtakcpoapokacgaaDoorSM
import Derived.Test.YtakcpoapokacgaaDoorMM
import Derived.Test.YtakcpoapokacgaaDoorMZ
import Derived.Test.YtakcpoapokacgaaDoorTZ
import Derived.Test.YtakcpoapokacgaaDoorAT
import Derived.Test.YtakcpoapokacgaaDoorLB
import Derived.Test.YtakcpoapokacgaaDoorLN
import Derived.Test.YtakcpoapokacgaaDoorPR
import Derived.WalkKit
import Derived.ProofKit
import Derived.RowKit3
import Derived.WalkSpells
import Derived.StillTactics
import Derived.Deep.QuietTactic
import Derived.BigQuiet
import Derived.Below
import Derived.Deep.OwnRows
import Derived.Laws.BitsAllLaws
namespace Go.Proofs.YtakcpoapokacgaaDoor
open Go.RowKit
set_option maxRecDepth 20000 in
set_option maxHeartbeats 1000000 in
theorem nzeros_ (p : Option Addr) (c : Nat) (xs : List Int) (w : World) (hx : Arr w p xs) (hwx : Wd xs) (lx : xs.length ≤ 16777216) (hT : Tab w) :
    Calls Tryd.prog 34 #[.slice p xs.length c] w fun e w' => e = .returned (.int .i64 (ctz (val xs) : Nat)) ∧ w' = w := by
  obtain ⟨N, hN⟩ : ∃ N, N = xs.length := ⟨_, rfl⟩
  obtain ⟨R, hR⟩ : ∃ R, R = ctz (val xs) := ⟨_, rfl⟩
  have HX : Hid (Arr w p xs ∧ Wd xs ∧ N = xs.length ∧ R = ctz (val xs) ∧ Tab w) := ⟨hx, hwx, hN, hR, hT⟩
  have lN : N ≤ 16777216 := by omega
  rw [← hN, ← hR]
  clear hx hwx lx hN hR hT
  go_enter Tryd.func34, Tryd.ntmps34
  go_wp2
  go_loop [6] (fun i => ∃ k : Nat, i = .int .i64 k ∧ k ≤ N ∧ ∀ j, j < k → xs.getD j 0 = 0) (fun i => N - (intOf i).toNat)
  case atStart => exact ⟨0, rfl, Nat.zero_le _, fun j h => by omega⟩
  case round =>
    obtain ⟨k, rfl, hk, hz⟩ := hrel
    obtain ⟨hx, hwx, hN, hR, hT⟩ := HX.out
    by_cases ck : k < N
    · obtain ⟨b, off, rfl, hc⟩ := hx.at (k := k) (by omega)
      have e1 := hc k (by omega)
      have wx := hwx k
      have i0 : (0 : Int) ≤ (k : Int) := by omega
      have i1 : (k : Int) < (N : Int) := by omega
      by_cases cx : xs.getD k 0 = 0
      · have HZ : Hid (∀ j, j < k + 1 → xs.getD j 0 = 0) := fun j hj => by
          by_cases e : j = k
          · subst e; exact cx
          · exact hz j (by omega)
        rw [cx] at e1
        clear HX hx hwx hN hR hT hc wx cx hz
        go_wp2
        exact ⟨⟨k + 1, by go_num, by omega, HZ.out⟩, by simp [intOf]; omega⟩
      · obtain ⟨o, s, ho, hs⟩ := odd_part (xs.getD k 0).toNat (by omega)
        have hlt : o * 2 ^ s < 4294967296 := by omega
        have hs32 : s < 32 := by
          have h1 : 2 ^ s ≤ o * 2 ^ s := Nat.le_mul_of_pos_left _ (by omega)
          exact (Nat.pow_lt_pow_iff_right (by decide : 1 < 2)).1 (Nat.lt_of_le_of_lt h1 (Nat.lt_of_lt_of_le hlt (by decide)))
        have hRv := ctz_val xs k o s hz (by omega) ho hs32 hs
        rw [← hR] at hRv
        have htz := tz32_ o s ho hlt w hT
        have e2 : xs.getD k 0 = ((o * 2 ^ s : Nat) : Int) := by omega
        rw [e2] at e1
        obtain ⟨X, hX⟩ : ∃ X : Nat, X = o * 2 ^ s := ⟨_, rfl⟩
        rw [← hX] at e1 htz hs
        have t1 : ((X : Int) != 0) = true := by simp; omega
        have f1 : (k : Int) * 32 + (s : Int) = (R : Int) := by omega
        have hkb : k ≤ 16777216 := by omega
        clear HX hx hwx hN hR hT hc wx cx hz ho hs hlt e2 hX hRv
        go_wp2_with (first | (go_at_call 59; refine htz.mono ?_; rintro e w' ⟨rfl, hw'⟩; obtain rfl := hw'.symm))
        exact bodyPost_ret (v := .int .i64 (R : Int)) (by simp [results, Tryd.results34, go_sem] <;> simp only [*]) rfl ⟨rfl, rfl⟩
    · have hv : val xs = 0 := val_zeros xs (fun j => by
        by_cases e : j < k
        · exact hz j e
        · simp [List.getD, List.getElem?_eq_none (by omega : xs.length ≤ j)])
      rw [hv, ctz_zero] at hR
      subst hR
      have i1 : ¬ ((k : Int) < (N : Int)) := by omega
      clear HX hx hwx hN hT hz hv
      go_wp2
      exact bodyPost_ret (v := .int .i64 0) (by simp [results, Tryd.results34, go_sem] <;> simp only [*]) rfl ⟨rfl, rfl⟩
set_option maxRecDepth 20000 in
set_option maxHeartbeats 1000000 in
theorem rbit_ (p : Option Addr) (c i j : Nat) (xs : List Int) (w : World) (hx : Arr w p xs) (hwx : Wd xs) (lx : xs.length ≤ 16777216) (hi : i < xs.length) (hj : j < 32) :
    Calls Tryd.prog 43 #[.slice p xs.length c, .int .i64 ((32 * i + j : Nat) : Int)] w fun e w' => e = .returned (.int .u32 ((xs.getD i 0).toNat / 2 ^ j % 2 : Nat)) ∧ w' = w := by
  obtain ⟨N, hN⟩ : ∃ N, N = xs.length := ⟨_, rfl⟩
  obtain ⟨b, off, rfl, hc⟩ := hx.at hi
  have e1 := hc i hi
  have wx := hwx i
  obtain ⟨X, hX⟩ : ∃ X : Nat, (X : Int) = xs.getD i 0 := ⟨(xs.getD i 0).toNat, by omega⟩
  rw [← hX] at e1 ⊢
  rw [Int.toNat_natCast]
  obtain ⟨k, hk⟩ : ∃ k, k = 32 * i + j := ⟨_, rfl⟩
  rw [← hk, ← hN]
  have t0 : ¬ ((k : Int) < 0) := by omega
  have f1 : (k : Int) / 32 = (i : Int) := by omega
  have f2 : (k : Int) % 32 = (j : Int) := by omega
  have i0 : (0 : Int) ≤ (i : Int) := by omega
  have i1 : (i : Int) < (N : Int) := by omega
  have i2 : ¬ ((N : Int) ≤ (i : Int)) := by omega
  have f3 : IntKind.u64.wrap (j : Int) = (j : Int) := by rw [IntKind.wrap_u64]; omega
  have f7 : wrap64 (i : Int) = (i : Int) := by unfold wrap64; omega
  have f8 : wrap64 (j : Int) = (j : Int) := by unfold wrap64; omega
  obtain ⟨Q, hQ⟩ : ∃ Q, Q = X / 2 ^ j := ⟨_, rfl⟩
  rw [← hQ]
  have hQX : Q ≤ X := by rw [hQ]; exact Nat.div_le_self _ _
  have f4 : (X : Int) / 2 ^ j = (Q : Int) := by rw [hQ]; push_cast; rfl
  have f5 : bits BinOp.and IntKind.u32 (Q : Int) 1 = ((Q % 2 : Nat) : Int) := by
    have := u32_and_nat Q 1 (by omega) (by omega)
    rw [Nat.and_one_is_mod] at this
    exact this
  obtain ⟨B, hB⟩ : ∃ B, B = Q % 2 := ⟨_, rfl⟩
  rw [← hB] at f5 ⊢
  clear hx hwx lx hi hc wx hX hk hN hQ hQX hB
  go_enter Tryd.func43, Tryd.ntmps43
  go_wp2
  exact bodyPost_ret (v := .int .u32 (B : Int)) (by simp [results, Tryd.results43, go_sem] <;> simp only [*]) rfl ⟨rfl, rfl⟩
end Go.Proofs.YtakcpoapokacgaaDoor
