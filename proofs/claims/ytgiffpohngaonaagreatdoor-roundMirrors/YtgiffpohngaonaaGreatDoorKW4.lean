import Derived.Test.YtgiffpohngaonaaGreatDoorProg
import Derived.Test.YtgiffpohngaonaaGreatDoorKXA0
import Derived.Test.YtgiffpohngaonaaGreatDoorKXM
import Derived.Test.YtgiffpohngaonaaGreatDoorKXT
import Derived.Test.YtgiffpohngaonaaGreatDoorKXNS
import Derived.Test.YtgiffpohngaonaaGreatDoorKXN
import Derived.Test.YtgiffpohngaonaaGreatDoorKXNM
import Derived.WalkKit
import Derived.ProofKit
import Derived.RowKit3
import Derived.WalkSpells
import Derived.StillTactics
import Derived.Deep.QuietTactic
import Derived.BigQuiet
import Derived.Below
import Derived.Deep.OwnRows
import Derived.OwnWalk
import Derived.Laws.Bits64b
namespace Go.Proofs.YtgiffpohngaonaaGreatDoor
open Go.RowKit
set_option maxRecDepth 20000 in
set_option maxHeartbeats 1000000 in
theorem lowest_ (p : Option Addr) (c : Nat) (xs : List Int) (w : World) (hx : Arr w p xs) (hwx : Wd xs) (lx : xs.length ≤ 2) :
    Calls Tryz.prog 83 #[.slice p xs.length c] w fun e w' => e = .returned (.int .u64 (val xs : Nat)) ∧ w' = w := by
  obtain ⟨N, hN⟩ : ∃ N, N = xs.length := ⟨_, rfl⟩
  have HX : Hid (Arr w p xs ∧ Wd xs ∧ N = xs.length) := ⟨hx, hwx, hN⟩
  have hmin : min (N : Int) 2 = (N : Int) := by omega
  have hN2 : N ≤ 2 := by omega
  rw [← hN]
  clear hx hwx lx hN
  go_enter Tryz.func83, Tryz.ntmps83
  go_wp2
  go_loop [3, 8] (fun v i => ∃ k : Nat, i = .int .i64 k ∧ k ≤ N ∧ v = .int .u64 (val (xs.take k) : Nat)) (fun _ i => N - (intOf i).toNat)
  case atStart => exact ⟨0, rfl, Nat.zero_le _, by simp [val]⟩
  case round =>
    obtain ⟨k, rfl, hk, rfl⟩ := hrel
    obtain ⟨hx, hwx, hN⟩ := HX.out
    by_cases ck : k < N
    · obtain ⟨b, off, rfl, hc⟩ := hx.at (k := k) (by omega)
      have e1 := hc k (by omega)
      have wx := hwx k
      have hst := val_take_succ xs k
      have hlt := val_two xs hwx (by omega) (k + 1)
      have hlk := val_take_lt xs hwx k
      obtain ⟨X, hX⟩ : ∃ X : Nat, (X : Int) = xs.getD k 0 := ⟨(xs.getD k 0).toNat, by omega⟩
      rw [← hX] at e1 hst
      rw [Int.toNat_natCast] at hst
      obtain ⟨V, hV⟩ : ∃ V, V = val (xs.take k) := ⟨_, rfl⟩
      obtain ⟨V', hV'⟩ : ∃ V', V' = val (xs.take (k + 1)) := ⟨_, rfl⟩
      rw [← hV] at hst hlk ⊢
      rw [← hV'] at hst hlt
      have HG : Hid (V' = val (xs.take (k + 1))) := hV'
      have f0 : IntKind.u64.wrap (X : Int) = (X : Int) := by rw [IntKind.wrap_u64]; omega
      have i0 : (0 : Int) ≤ (k : Int) := by omega
      have i1 : (k : Int) < (N : Int) := by omega
      have hX32 : X < 4294967296 := by omega
      clear hx hwx hN hc wx hX hV hV' HX
      rcases (by omega : k = 0 ∨ k = 1) with rfl | rfl
      · have hV0 : V = 0 := by simpa using hlk
        subst hV0
        have hX' : V' = X := by simpa using hst
        subst hX'
        have f2 : bits BinOp.or IntKind.u64 0 (V' : Int) = (V' : Int) := by
          have := bits_or_u64_nat 0 V' (by omega) (by omega)
          simpa using this
        rw [Nat.add_zero] at e1
        clear hst hlt hlk
        go_wp2
        exact ⟨⟨1, by go_num, by omega, by rw [← HG.out]⟩, by simp [intOf]; omega⟩
      · have f1 : IntKind.u64.wrap ((X : Int) * 4294967296) = ((X * 4294967296 : Nat) : Int) := by rw [IntKind.wrap_u64]; omega
        have hor := or_low V X 32 (by simpa using hlk)
        have f2 := bits_or_u64_nat V (X * 4294967296) (by omega) (by omega)
        have e2 : V ||| X * 4294967296 = V' := by
          have e3 : V + X * 4294967296 = V' := by omega
          rw [← e3]; exact hor
        rw [e2] at f2
        obtain ⟨Y, hY⟩ : ∃ Y : Nat, Y = X * 4294967296 := ⟨_, rfl⟩
        rw [← hY] at f1 f2
        clear hst hlt hlk hor e2 hY
        go_wp2
        exact ⟨⟨2, by go_num, by omega, by rw [← HG.out]⟩, by simp [intOf]; omega⟩
    · have hkN : k = N := by omega
      subst hkN
      rw [hN, List.take_length]
      obtain ⟨V, hV⟩ : ∃ V, V = val xs := ⟨_, rfl⟩
      rw [← hV]
      have i1 : ¬ ((k : Int) < (k : Int)) := by omega
      have HV : Hid (V = val xs) := hV
      clear HX hx hwx hN hV
      go_wp2
      exact bodyPost_ret (v := .int .u64 (V : Int)) (by simp [results, Tryz.results83, go_sem] <;> simp only [*]) rfl ⟨by rw [HV.out], rfl⟩
set_option maxRecDepth 20000 in
set_option maxHeartbeats 1000000 in
theorem nword_ (p : Option Addr) (c : Nat) (xs : List Int) (w : World) (hx : Arr w p xs) (hwx : Wd xs) (lx : xs.length ≤ 16777216) (hc : xs.length ≤ c) :
    Calls Tryz.prog 57 #[.slice p xs.length c] w fun e w' => e = .returned (.tuple #[.int .u64 ((wordN (val xs)).1 : Nat), .bool (wordN (val xs)).2]) ∧ w' = w := by
  have h1 := trim_ p c xs w hx (by omega) hc
  have e1 := tl_len xs hwx
  have h2 : tl xs ≤ 2 → Calls Tryz.prog 83 #[.slice p (tl xs) c] w fun e w' => e = .returned (.int .u64 (val xs : Nat)) ∧ w' = w := fun h => by
    have := lowest_ p c (nz xs) w (hx.take _) (hwx.take _) (by rw [nz_length]; exact h)
    rw [nz_length, val_nz] at this
    exact this
  obtain ⟨a, ha⟩ : ∃ a, a = val xs := ⟨_, rfl⟩
  obtain ⟨N, hN⟩ : ∃ N, N = xs.length := ⟨_, rfl⟩
  obtain ⟨S, hS⟩ : ∃ S, S = tl xs := ⟨_, rfl⟩
  rw [← ha] at e1 h2 ⊢
  rw [← hN, ← hS] at h1
  rw [← hS] at e1 h2
  rw [← hN]
  clear hx hwx lx hc ha hN hS
  by_cases cs : 2 < S
  · have e2 : wordN a = (0, false) := by unfold wordN; rw [if_pos (by omega)]
    rw [e2]
    have t1 : (2 : Int) < (S : Int) := by omega
    clear h2 e1 e2 cs
    go_enter Tryz.func57, Tryz.ntmps57
    go_wp2_with fail
    refine h1.mono ?_; rintro e w' ⟨rfl, hw'⟩; obtain rfl := hw'.symm
    go_wp2
    exact bodyPost_ret (v := .tuple #[.int .u64 0, .bool false]) (by simp [results, Tryz.results57, go_sem] <;> simp only [*]) rfl ⟨rfl, rfl⟩
  · have e2 : wordN a = (a, true) := by unfold wordN; rw [if_neg (by omega)]
    rw [e2]
    have t1 : ¬ ((2 : Int) < (S : Int)) := by omega
    have h3 := h2 (by omega)
    clear h2 e1 e2 cs
    go_enter Tryz.func57, Tryz.ntmps57
    go_wp2_with fail
    refine h1.mono ?_; rintro e w' ⟨rfl, hw'⟩; obtain rfl := hw'.symm
    go_wp2_with fail
    refine h3.mono ?_; rintro e w' ⟨rfl, hw'⟩; obtain rfl := hw'.symm
    go_wp2
    exact bodyPost_ret (v := .tuple #[.int .u64 (a : Int), .bool true]) (by simp [results, Tryz.results57, go_sem] <;> simp only [*]) rfl ⟨rfl, rfl⟩
end Go.Proofs.YtgiffpohngaonaaGreatDoor
