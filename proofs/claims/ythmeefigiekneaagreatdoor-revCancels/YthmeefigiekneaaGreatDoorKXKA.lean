import Derived.Test.YthmeefigiekneaaGreatDoorProg
import Derived.Test.YthmeefigiekneaaGreatDoorKXA0
import Derived.Test.YthmeefigiekneaaGreatDoorKXQF
import Derived.Test.YthmeefigiekneaaGreatDoorKQA
import Derived.Test.YthmeefigiekneaaGreatDoorKXQU
import Derived.Test.YthmeefigiekneaaGreatDoorKXEA
import Derived.Test.YthmeefigiekneaaGreatDoorKXNR
import Derived.Test.YthmeefigiekneaaGreatDoorKXM
import Derived.Test.YthmeefigiekneaaGreatDoorKXY
import Derived.Test.YthmeefigiekneaaGreatDoorKQP
import Derived.Test.YthmeefigiekneaaGreatDoorKQB
import Derived.Test.YthmeefigiekneaaGreatDoorKQBT
import Derived.Test.YthmeefigiekneaaGreatDoorKQJd
import Derived.Test.YthmeefigiekneaaGreatDoorKXED
import Derived.Test.YthmeefigiekneaaGreatDoorKMR7Q
import Derived.Test.YthmeefigiekneaaGreatDoorKXMR
import Derived.Test.YthmeefigiekneaaGreatDoorKXM3
import Derived.Test.YthmeefigiekneaaGreatDoorKXO
import Derived.Test.YthmeefigiekneaaGreatDoorKXO3
import Derived.Test.YthmeefigiekneaaGreatDoorKXT
import Derived.Test.YthmeefigiekneaaGreatDoorKXLX
import Derived.Test.YthmeefigiekneaaGreatDoorKRX
import Derived.Test.YthmeefigiekneaaGreatDoorKXRL
import Derived.Test.YthmeefigiekneaaGreatDoorKXCO
import Derived.Test.YthmeefigiekneaaGreatDoorKLN
import Derived.Test.YthmeefigiekneaaGreatDoorKXRN
import Derived.Test.YthmeefigiekneaaGreatDoorKXW4
import Derived.Test.YthmeefigiekneaaGreatDoorKXBY
import Derived.Test.YthmeefigiekneaaGreatDoorKXTZ
import Derived.Test.YthmeefigiekneaaGreatDoorKXG1
import Derived.Test.YthmeefigiekneaaGreatDoorKXH2Q
import Derived.Test.YthmeefigiekneaaGreatDoorKXG4
import Derived.Test.YthmeefigiekneaaGreatDoorKXS1
import Derived.Test.YthmeefigiekneaaGreatDoorKXS6
import Derived.Test.YthmeefigiekneaaGreatDoorKXN
import Derived.Test.YthmeefigiekneaaGreatDoorKXNS
import Derived.Test.YthmeefigiekneaaGreatDoorKXSL
import Derived.WalkKit
import Derived.ProofKit
import Derived.RowKit3
import Derived.WalkSpells
import Derived.StillTactics
import Derived.Deep.QuietTactic
import Derived.BigQuiet
import Derived.Below
import Derived.Deep.OwnRows
import Derived.OwnWalk
import Derived.Laws.BitsAllLaws
import Derived.Laws.Slices
import Derived.Laws.Bits64b
import Derived.Laws.FloatArith
import Derived.Deep.RegionHeld3
namespace Go.Proofs.YthmeefigiekneaaGreatDoor
open Go.RowKit

set_option linter.unusedVariables false
theorem len32_blen (n : Nat) : len32 n ≤ blen n := by
  by_cases c : blen n < len32 n
  · exfalso
    have h1 := len32_lt n _ c
    have h2 : n < 2 ^ blen n := (blen_le_iff n (blen n)).1 (Nat.le_refl _)
    have h3 : 2 ^ blen n ≤ 4294967296 ^ blen n := Nat.pow_le_pow_left (by decide) _
    omega
  · omega
theorem shl_dig (S E N : Nat) (hS : blen S ≤ 64) (hE : E ≤ 4096) (hN : N = S * 2 ^ E) : (shlN S (E : Int)).1 = dig N := by
  have hl : len32 S ≤ 16384 := by
    have := len32_blen S
    omega
  unfold shlN
  rw [if_neg (by omega), if_neg (by omega)]
  by_cases c : S = 0
  · rw [if_pos c, hN, c, Nat.zero_mul, dig_zero]
  · rw [if_neg c, Int.toNat_natCast, if_neg (by omega), hN]
theorem shlD_ (S E : Nat) (hS : blen S ≤ 64) (hE : E ≤ 4096) : ∀ (W : World) (p : Option Addr) (c : Nat), Arr W p (dig S) → (dig S).length ≤ c → Calls Tryz.prog 59 #[.slice p (dig S).length c, .int .i64 (E : Int)] W fun e w' => ∃ v, e = .returned (.tuple #[v, .int .i64 (shlN S (E : Int)).2]) ∧ Own w' W.heap.size v (shlN S (E : Int)).1 ∧ Kp W w' := by
  intro W p c hA hc
  have hl : (dig S).length ≤ 16777216 := by
    have := len32_blen S
    show len32 S ≤ _
    omega
  have h := nshl_ p c (dig S) W (E : Int) hA (Wd_dig S) hl hc
  rw [val_dig] at h
  exact h
set_option maxRecDepth 20000 in
set_option maxHeartbeats 1000000 in
theorem countedA_ (X M S E F G : Nat) (N : Nat) (ha : ∀ w : World, Calls Tryz.prog 56 #[.float .f64 X] w fun e w' => e = .returned (.float .f64 M) ∧ w' = w) (f1 : bits BinOp.and IntKind.u64 (M : Int) 4503599627370495 = (S : Int)) (f2 : (M : Int) / 4503599627370496 = (E : Int)) (t : ¬ (0 : Int) < (E : Int)) (f6 : IntKind.i64.wrap (E : Int) = (E : Int)) (hsm : ∀ w : World, Calls Tryz.prog 60 #[.int .u64 (S : Int)] w fun e w' => ∃ r, e = .returned r ∧ Own w' w.heap.size r (dig S) ∧ Kp w w') (hsh : ∀ (W : World) (p : Option Addr) (c : Nat), Arr W p (dig S) → (dig S).length ≤ c → Calls Tryz.prog 59 #[.slice p (dig S).length c, .int .i64 (E : Int)] W fun e w' => ∃ v, e = .returned (.tuple #[v, .int .i64 (shlN S (E : Int)).2]) ∧ Own w' W.heap.size v (shlN S (E : Int)).1 ∧ Kp W w') (HS : Hid (∀ (w : World) (b : Nat) (v : Value), Own w b v (shlN S (E : Int)).1 → Own w 0 v (dig N))) (w : World) : Calls Tryz.prog 37 #[.float .f64 X] w fun e w' => ∃ v, e = .returned v ∧ Own w' 0 v (dig N) ∧ Kp w w' := by
  have hfb := Fq.fb64 M
  go_enter Tryz.func37, Tryz.ntmps37
  go_wp2_with (first | (go_at_call 56; refine (ha _).mono ?_; rintro e w' ⟨rfl, hw'⟩; obtain rfl := hw'.symm; clear hw') | (go_at_call 60; refine (hsm _).mono ?_; rintro e w1 ⟨r, rfl, ho, g1⟩; obtain ⟨p1, c1, rfl, hA1, hc1⟩ := ho.arr) | (go_at_call 59; refine (hsh w1 p1 c1 hA1 hc1).mono ?_; rintro e w2 ⟨v, rfl, ho2, g2⟩))
  exact bodyPost_ret (v := v) (by simp [results, Tryz.results37, go_sem]) rfl ⟨v, rfl, HS.out _ _ _ ho2, Kp.trans g1 g2⟩
set_option maxRecDepth 20000 in
set_option maxHeartbeats 1000000 in
theorem countedB_ (X M S E F G : Nat) (N : Nat) (ha : ∀ w : World, Calls Tryz.prog 56 #[.float .f64 X] w fun e w' => e = .returned (.float .f64 M) ∧ w' = w) (f1 : bits BinOp.and IntKind.u64 (M : Int) 4503599627370495 = (S : Int)) (f2 : (M : Int) / 4503599627370496 = (E : Int)) (t : (0 : Int) < (E : Int)) (f3 : bits BinOp.or IntKind.u64 (S : Int) 4503599627370496 = (F : Int)) (f4 : wrap64 ((E : Int) - 1) = (G : Int)) (f5 : IntKind.i64.wrap ((E : Int) - 1) = (G : Int)) (f6 : IntKind.i64.wrap (E : Int) = (E : Int)) (hsm : ∀ w : World, Calls Tryz.prog 60 #[.int .u64 (F : Int)] w fun e w' => ∃ r, e = .returned r ∧ Own w' w.heap.size r (dig F) ∧ Kp w w') (hsh : ∀ (W : World) (p : Option Addr) (c : Nat), Arr W p (dig F) → (dig F).length ≤ c → Calls Tryz.prog 59 #[.slice p (dig F).length c, .int .i64 (G : Int)] W fun e w' => ∃ v, e = .returned (.tuple #[v, .int .i64 (shlN F (G : Int)).2]) ∧ Own w' W.heap.size v (shlN F (G : Int)).1 ∧ Kp W w') (HS : Hid (∀ (w : World) (b : Nat) (v : Value), Own w b v (shlN F (G : Int)).1 → Own w 0 v (dig N))) (w : World) : Calls Tryz.prog 37 #[.float .f64 X] w fun e w' => ∃ v, e = .returned v ∧ Own w' 0 v (dig N) ∧ Kp w w' := by
  have hfb := Fq.fb64 M
  go_enter Tryz.func37, Tryz.ntmps37
  go_wp2_with (first | (go_at_call 56; refine (ha _).mono ?_; rintro e w' ⟨rfl, hw'⟩; obtain rfl := hw'.symm; clear hw') | (go_at_call 60; refine (hsm _).mono ?_; rintro e w1 ⟨r, rfl, ho, g1⟩; obtain ⟨p1, c1, rfl, hA1, hc1⟩ := ho.arr) | (go_at_call 59; refine (hsh w1 p1 c1 hA1 hc1).mono ?_; rintro e w2 ⟨v, rfl, ho2, g2⟩))
  exact bodyPost_ret (v := v) (by simp [results, Tryz.results37, go_sem]) rfl ⟨v, rfl, HS.out _ _ _ ho2, Kp.trans g1 g2⟩

theorem counted_ (n : Bool) (m : Nat) (hm : m < 9218868437227405312) (w : World) : Calls Tryz.prog 37 #[.float .f64 (Fq.wD n m)] w fun e w' => ∃ v, e = .returned v ∧ Own w' 0 v (dig (Fq.vV Ieee.double m)) ∧ Kp w w' := by
  have ha := abs_ n m (by omega)
  obtain ⟨S, hS⟩ : ∃ S, S = m % 4503599627370496 := ⟨_, rfl⟩
  obtain ⟨E, hE⟩ : ∃ E, E = m / 4503599627370496 := ⟨_, rfl⟩
  have f1 : bits BinOp.and IntKind.u64 (m : Int) 4503599627370495 = (S : Int) := by
    have h := u64_and_nat m 4503599627370495 (by omega) (by decide)
    rw [show (4503599627370495 : Nat) = 2 ^ 52 - 1 from by decide, Nat.and_two_pow_sub_one_eq_mod, show (2 : Nat) ^ 52 = 4503599627370496 from by decide, ← hS] at h
    exact h
  have f2 : (m : Int) / 4503599627370496 = (E : Int) := by rw [hE]; exact (Int.natCast_ediv _ _).symm
  have f6 : IntKind.i64.wrap (E : Int) = (E : Int) := wi64 _ (by omega) (by omega)
  have hv : (Fq.vV Ieee.double m) = (if m < 4503599627370496 then m else 4503599627370496 + m % 4503599627370496) * 2 ^ (if m < 4503599627370496 then 0 else m / 4503599627370496 - 1) := by
    unfold Fq.vV Fq.mM Fq.eE; rw [Fq.binD]
  have b64 : ∀ x : Nat, x < 18446744073709551616 → blen x ≤ 64 := fun x h => blen_lt x 64 (by rw [show (2 : Nat) ^ 64 = 18446744073709551616 from by decide]; exact h)
  by_cases c : m < 4503599627370496
  · have e0 : E = 0 := by omega
    have hN : (Fq.vV Ieee.double m) = S * 2 ^ E := by rw [hv, if_pos c, if_pos c, e0, hS, Nat.mod_eq_of_lt c]
    exact countedA_ _ m S E 0 0 _ ha f1 f2 (by omega) f6 (nsmall_ S (by omega)) (shlD_ S E (b64 S (by omega)) (by omega)) (fun w b v h => by rw [shl_dig S E _ (b64 S (by omega)) (by omega) hN] at h; exact h.mono (Nat.zero_le _)) w
  · have e0 : 0 < E := by omega
    obtain ⟨F, hF⟩ : ∃ F, F = S + 4503599627370496 := ⟨_, rfl⟩
    obtain ⟨G, hG⟩ : ∃ G, G = E - 1 := ⟨_, rfl⟩
    have hN : (Fq.vV Ieee.double m) = F * 2 ^ G := by rw [hv, if_neg c, if_neg c, hF, hG, hS, hE, Nat.add_comm]
    have f3 : bits BinOp.or IntKind.u64 (S : Int) 4503599627370496 = (F : Int) := by
      have g := u64_or_nat S 4503599627370496 (by omega) (by decide)
      have e2 : S ||| 4503599627370496 = F := by
        have := or_low S 1 52 (by rw [show (2 : Nat) ^ 52 = 4503599627370496 from by decide]; omega)
        rw [show (2 : Nat) ^ 52 = 4503599627370496 from by decide, Nat.one_mul] at this
        omega
      rw [e2] at g
      exact g
    exact countedB_ _ m S E F G _ ha f1 f2 (by omega) f3 (by rw [w64x _ (by omega) (by omega)]; omega) (by rw [wi64 _ (by omega) (by omega)]; omega) f6 (nsmall_ F (by omega)) (shlD_ F G (b64 F (by omega)) (by omega)) (fun w b v h => by rw [shl_dig F G _ (b64 F (by omega)) (by omega) hN] at h; exact h.mono (Nat.zero_le _)) w

set_option linter.unusedVariables false
theorem naddD_ (W : World) (p q : Option Addr) (c d x y : Nat) (hp : Arr W p (dig x)) (hq : Arr W q (dig y)) (hc : (dig x).length ≤ c) (hd : (dig y).length ≤ d) (bx : blen x ≤ 4096) (by_ : blen y ≤ 4096) : Calls Tryz.prog 38 #[.slice p (dig x).length c, .slice q (dig y).length d] W fun e w' => ∃ v, e = .returned (.tuple #[v, .int .i64 0]) ∧ Own w' W.heap.size v (dig (x + y)) ∧ Kp W w' := by
  have h := nadd_ p q c d (dig x) (dig y) W hp hq (Wd_dig x) (Wd_dig y) (by have := len32_blen x; show len32 x < _; omega) (by have := len32_blen y; show len32 y < _; omega) hc hd
  have e : addN x y = (dig (x + y), 0) := by
    unfold addN
    have h1 := len32_blen x
    have h2 := len32_blen y
    have h3 := len32_blen (x + y)
    have h4 : ∀ K : Nat, blen x ≤ K → blen y ≤ K → blen (x + y) ≤ K + 1 := fun K u v => by
      rw [blen_le_iff] at u v ⊢
      rw [Nat.pow_succ]
      omega
    have h4 := h4 _ bx by_
    rw [if_neg (by omega), if_neg (by omega)]
  rw [val_dig, val_dig, e] at h
  exact h
theorem nsubD_ (W : World) (p q : Option Addr) (c d x y : Nat) (hp : Arr W p (dig x)) (hq : Arr W q (dig y)) (hc : (dig x).length ≤ c) (hd : (dig y).length ≤ d) (bx : blen x ≤ 4096) (by_ : blen y ≤ 4096) (hle : y ≤ x) : Calls Tryz.prog 39 #[.slice p (dig x).length c, .slice q (dig y).length d] W fun e w' => ∃ v, e = .returned (.tuple #[v, .int .i64 0]) ∧ Own w' W.heap.size v (dig (x - y)) ∧ Kp W w' := by
  have h := nsub_ p q c d (dig x) (dig y) W hp hq (Wd_dig x) (Wd_dig y) (by have := len32_blen x; show len32 x < _; omega) (by have := len32_blen y; show len32 y < _; omega) hc hd
  have e : subN x y = (dig (x - y), 0) := by
    unfold subN
    have h1 := len32_blen x
    rw [if_neg (by omega), if_neg (by omega)]
  rw [val_dig, val_dig, e] at h
  exact h
theorem ncmpD_ (W : World) (p q : Option Addr) (c d x y : Nat) (hp : Arr W p (dig x)) (hq : Arr W q (dig y)) (hc : (dig x).length ≤ c) (hd : (dig y).length ≤ d) (bx : blen x ≤ 4100) (by_ : blen y ≤ 4100) : Calls Tryz.prog 15 #[.slice p (dig x).length c, .slice q (dig y).length d] W fun e w' => e = .returned (.int .i64 (cmpN x y)) ∧ Kp W w' := by
  have h := ncmp_ p q c d (dig x) (dig y) W hp hq (Wd_dig x) (Wd_dig y) (by have := len32_blen x; show len32 x ≤ _; omega) (by have := len32_blen y; show len32 y ≤ _; omega) hc hd
  rw [val_dig, val_dig] at h
  exact h
set_option maxRecDepth 20000 in
set_option maxHeartbeats 1000000 in
theorem gapS_ (X Y a b : Nat) (h1 : ∀ w : World, Calls Tryz.prog 37 #[.float .f64 X] w fun e w' => ∃ v, e = .returned v ∧ Own w' 0 v (dig a) ∧ Kp w w') (h2 : ∀ w : World, Calls Tryz.prog 37 #[.float .f64 Y] w fun e w' => ∃ v, e = .returned v ∧ Own w' 0 v (dig b) ∧ Kp w w') (E1 E2 : Bool) (t1 : (FloatKind.f64.format.order X 0 == some Ordering.lt) = E1) (t2 : (FloatKind.f64.format.order Y 0 == some Ordering.lt) = E2) (hne : (E1 != E2) = true) (hadd : ∀ (W : World) (p q : Option Addr) (c d : Nat), Arr W p (dig a) → Arr W q (dig b) → (dig a).length ≤ c → (dig b).length ≤ d → Calls Tryz.prog 38 #[.slice p (dig a).length c, .slice q (dig b).length d] W fun e w' => ∃ v, e = .returned (.tuple #[v, .int .i64 0]) ∧ Own w' W.heap.size v (dig (a + b)) ∧ Kp W w') (w : World) : Calls Tryz.prog 16 #[.float .f64 X, .float .f64 Y] w fun e w' => ∃ v, e = .returned v ∧ Own w' 0 v (dig (a + b)) ∧ Kp w w' := by
  cases E1 <;> cases E2 <;> simp at hne
  all_goals (
    go_enter Tryz.func16, Tryz.ntmps16
    go_wp2_with (first | (go_at_call_of 37 (Value.float .f64 X); refine (h1 _).mono ?_; rintro e w1 ⟨v1, rfl, o1, g1⟩; obtain ⟨p1, c1, rfl, a1, l1⟩ := o1.arr) | (go_at_call_of 37 (Value.float .f64 Y); refine (h2 _).mono ?_; rintro e w2 ⟨v2, rfl, o2, g2⟩; obtain ⟨p2, c2, rfl, a2, l2⟩ := o2.arr; replace a1 := a1.grown g2; have k2 := Kp.trans g1 g2) | (go_at_call 38; refine (hadd _ _ _ _ _ a1 a2 l1 l2).mono ?_; rintro e w3 ⟨v3, rfl, o3, g3⟩))
    exact bodyPost_ret (v := v3) (by simp [results, Tryz.results16, go_sem]) rfl ⟨v3, rfl, o3.mono (Nat.zero_le _), Kp.trans k2 g3⟩)
set_option maxRecDepth 20000 in
set_option maxHeartbeats 1000000 in
theorem gapG_ (X Y a b : Nat) (h1 : ∀ w : World, Calls Tryz.prog 37 #[.float .f64 X] w fun e w' => ∃ v, e = .returned v ∧ Own w' 0 v (dig a) ∧ Kp w w') (h2 : ∀ w : World, Calls Tryz.prog 37 #[.float .f64 Y] w fun e w' => ∃ v, e = .returned v ∧ Own w' 0 v (dig b) ∧ Kp w w') (E1 E2 : Bool) (t1 : (FloatKind.f64.format.order X 0 == some Ordering.lt) = E1) (t2 : (FloatKind.f64.format.order Y 0 == some Ordering.lt) = E2) (hne : (E1 != E2) = false) (C : Int) (tc : ¬ C < 0) (hcmp : ∀ (W : World) (p q : Option Addr) (c d : Nat), Arr W p (dig a) → Arr W q (dig b) → (dig a).length ≤ c → (dig b).length ≤ d → Calls Tryz.prog 15 #[.slice p (dig a).length c, .slice q (dig b).length d] W fun e w' => e = .returned (.int .i64 C) ∧ Kp W w') (hsub : ∀ (W : World) (p q : Option Addr) (c d : Nat), Arr W p (dig a) → Arr W q (dig b) → (dig a).length ≤ c → (dig b).length ≤ d → Calls Tryz.prog 39 #[.slice p (dig a).length c, .slice q (dig b).length d] W fun e w' => ∃ v, e = .returned (.tuple #[v, .int .i64 0]) ∧ Own w' W.heap.size v (dig (a - b)) ∧ Kp W w') (w : World) : Calls Tryz.prog 16 #[.float .f64 X, .float .f64 Y] w fun e w' => ∃ v, e = .returned v ∧ Own w' 0 v (dig (a - b)) ∧ Kp w w' := by
  cases E1 <;> cases E2 <;> simp at hne
  all_goals (
    go_enter Tryz.func16, Tryz.ntmps16
    go_wp2_with (first | (go_at_call_of 37 (Value.float .f64 X); refine (h1 _).mono ?_; rintro e w1 ⟨v1, rfl, o1, g1⟩; obtain ⟨p1, c1, rfl, a1, l1⟩ := o1.arr) | (go_at_call_of 37 (Value.float .f64 Y); refine (h2 _).mono ?_; rintro e w2 ⟨v2, rfl, o2, g2⟩; obtain ⟨p2, c2, rfl, a2, l2⟩ := o2.arr; replace a1 := a1.grown g2; have k2 := Kp.trans g1 g2) | (go_at_call 15; refine (hcmp _ _ _ _ _ a1 a2 l1 l2).mono ?_; rintro e w4 ⟨rfl, g4⟩; replace a1 := a1.grown g4; replace a2 := a2.grown g4) | (go_at_call 39; refine (hsub _ _ _ _ _ a1 a2 l1 l2).mono ?_; rintro e w3 ⟨v3, rfl, o3, g3⟩))
    exact bodyPost_ret (v := v3) (by simp [results, Tryz.results16, go_sem]) rfl ⟨v3, rfl, o3.mono (Nat.zero_le _), Kp.trans k2 (Kp.trans g4 g3)⟩)
set_option maxRecDepth 20000 in
set_option maxHeartbeats 1000000 in
theorem gapL_ (X Y a b : Nat) (h1 : ∀ w : World, Calls Tryz.prog 37 #[.float .f64 X] w fun e w' => ∃ v, e = .returned v ∧ Own w' 0 v (dig a) ∧ Kp w w') (h2 : ∀ w : World, Calls Tryz.prog 37 #[.float .f64 Y] w fun e w' => ∃ v, e = .returned v ∧ Own w' 0 v (dig b) ∧ Kp w w') (E1 E2 : Bool) (t1 : (FloatKind.f64.format.order X 0 == some Ordering.lt) = E1) (t2 : (FloatKind.f64.format.order Y 0 == some Ordering.lt) = E2) (hne : (E1 != E2) = false) (C : Int) (tc : C < 0) (hcmp : ∀ (W : World) (p q : Option Addr) (c d : Nat), Arr W p (dig a) → Arr W q (dig b) → (dig a).length ≤ c → (dig b).length ≤ d → Calls Tryz.prog 15 #[.slice p (dig a).length c, .slice q (dig b).length d] W fun e w' => e = .returned (.int .i64 C) ∧ Kp W w') (hsub : ∀ (W : World) (p q : Option Addr) (c d : Nat), Arr W p (dig b) → Arr W q (dig a) → (dig b).length ≤ c → (dig a).length ≤ d → Calls Tryz.prog 39 #[.slice p (dig b).length c, .slice q (dig a).length d] W fun e w' => ∃ v, e = .returned (.tuple #[v, .int .i64 0]) ∧ Own w' W.heap.size v (dig (b - a)) ∧ Kp W w') (w : World) : Calls Tryz.prog 16 #[.float .f64 X, .float .f64 Y] w fun e w' => ∃ v, e = .returned v ∧ Own w' 0 v (dig (b - a)) ∧ Kp w w' := by
  cases E1 <;> cases E2 <;> simp at hne
  all_goals (
    go_enter Tryz.func16, Tryz.ntmps16
    go_wp2_with (first | (go_at_call_of 37 (Value.float .f64 X); refine (h1 _).mono ?_; rintro e w1 ⟨v1, rfl, o1, g1⟩; obtain ⟨p1, c1, rfl, a1, l1⟩ := o1.arr) | (go_at_call_of 37 (Value.float .f64 Y); refine (h2 _).mono ?_; rintro e w2 ⟨v2, rfl, o2, g2⟩; obtain ⟨p2, c2, rfl, a2, l2⟩ := o2.arr; replace a1 := a1.grown g2; have k2 := Kp.trans g1 g2) | (go_at_call 15; refine (hcmp _ _ _ _ _ a1 a2 l1 l2).mono ?_; rintro e w4 ⟨rfl, g4⟩; replace a1 := a1.grown g4; replace a2 := a2.grown g4) | (go_at_call 39; refine (hsub _ _ _ _ _ a2 a1 l2 l1).mono ?_; rintro e w3 ⟨v3, rfl, o3, g3⟩))
    exact bodyPost_ret (v := v3) (by simp [results, Tryz.results16, go_sem]) rfl ⟨v3, rfl, o3.mono (Nat.zero_le _), Kp.trans k2 (Kp.trans g4 g3)⟩)

theorem blen_vV (m : Nat) (hm : m < 9218868437227405312) : blen (Fq.vV Ieee.double m) ≤ 2100 := by
  have hv : (Fq.vV Ieee.double m) = (if m < 4503599627370496 then m else 4503599627370496 + m % 4503599627370496) * 2 ^ (if m < 4503599627370496 then 0 else m / 4503599627370496 - 1) := by
    unfold Fq.vV Fq.mM Fq.eE; rw [Fq.binD]
  obtain ⟨S, hS⟩ : ∃ S, S = (if m < 4503599627370496 then m else 4503599627370496 + m % 4503599627370496) := ⟨_, rfl⟩
  obtain ⟨E, hE⟩ : ∃ E, E = (if m < 4503599627370496 then 0 else m / 4503599627370496 - 1) := ⟨_, rfl⟩
  rw [← hS, ← hE] at hv
  have bS : S < 2 ^ 53 := by rw [hS, show (2 : Nat) ^ 53 = 9007199254740992 from by decide]; split <;> omega
  have bE : E ≤ 2046 := by rw [hE]; split <;> omega
  have h1 : blen (S * 2 ^ E) ≤ 53 + E := by
    rw [blen_le_iff, Nat.pow_add]
    exact Nat.mul_lt_mul_of_pos_right bS (Nat.two_pow_pos E)
  rw [hv]
  omega
theorem gap_ (n n' : Bool) (m m' : Nat) (hm : m < 9218868437227405312) (hm' : m' < 9218868437227405312) (z1 : n = true → m ≠ 0) (z2 : n' = true → m' ≠ 0) (w : World) : Calls Tryz.prog 16 #[.float .f64 (Fq.wD n m), .float .f64 (Fq.wD n' m')] w fun e w' => ∃ v, e = .returned v ∧ Own w' 0 v (dig (Iv n m - Iv n' m').natAbs) ∧ Kp w w' := by
  have h1 := counted_ n m hm
  have h2 := counted_ n' m' hm'
  have b1 := blen_vV m hm
  have b2 := blen_vV m' hm'
  have t1 := Fq.flt n false m 0 (by omega) (by decide)
  have t2 := Fq.flt n' false m' 0 (by omega) (by decide)
  rw [show Fq.wD false 0 = 0 from rfl] at t1 t2
  have s1 : decide (m ≤ 9218868437227405312 ∧ 0 ≤ 9218868437227405312 ∧ Fq.plz n m < Fq.plz false 0) = n := by
    unfold Fq.plz
    cases n <;> simp at z1 ⊢ <;> omega
  have s2 : decide (m' ≤ 9218868437227405312 ∧ 0 ≤ 9218868437227405312 ∧ Fq.plz n' m' < Fq.plz false 0) = n' := by
    unfold Fq.plz
    cases n' <;> simp at z2 ⊢ <;> omega
  rw [s1] at t1
  rw [s2] at t2
  obtain ⟨a, ha⟩ : ∃ a, a = (Fq.vV Ieee.double m) := ⟨_, rfl⟩
  obtain ⟨b, hb⟩ : ∃ b, b = (Fq.vV Ieee.double m') := ⟨_, rfl⟩
  have i1 : Iv n m = if n then -(a : Int) else a := by unfold Iv; rw [ha]
  have i2 : Iv n' m' = if n' then -(b : Int) else b := by unfold Iv; rw [hb]
  rw [← ha] at h1 b1
  rw [← hb] at h2 b2
  rw [i1, i2]
  by_cases c : (n != n') = true
  · have e : ((if n then -(a : Int) else a) - (if n' then -(b : Int) else b)).natAbs = a + b := by
      cases n <;> cases n' <;> simp at c ⊢ <;> omega
    rw [e]
    exact gapS_ _ _ a b h1 h2 n n' t1 t2 c (fun W p q c d x1 x2 x3 x4 => naddD_ W p q c d a b x1 x2 x3 x4 (by omega) (by omega)) w
  · have c : (n != n') = false := by simpa using c
    by_cases l : a < b
    · have e : ((if n then -(a : Int) else a) - (if n' then -(b : Int) else b)).natAbs = b - a := by
        cases n <;> cases n' <;> simp at c ⊢ <;> omega
      rw [e]
      exact gapL_ _ _ a b h1 h2 n n' t1 t2 c _ (by rw [cmpN_lt l]; decide) (fun W p q c d x1 x2 x3 x4 => ncmpD_ W p q c d a b x1 x2 x3 x4 (by omega) (by omega)) (fun W p q c d x1 x2 x3 x4 => nsubD_ W p q c d b a x1 x2 x3 x4 (by omega) (by omega) (by omega)) w
    · have e : ((if n then -(a : Int) else a) - (if n' then -(b : Int) else b)).natAbs = a - b := by
        cases n <;> cases n' <;> simp at c ⊢ <;> omega
      rw [e]
      exact gapG_ _ _ a b h1 h2 n n' t1 t2 c _ (by unfold cmpN; rw [if_neg l]; split <;> decide) (fun W p q c d x1 x2 x3 x4 => ncmpD_ W p q c d a b x1 x2 x3 x4 (by omega) (by omega)) (fun W p q c d x1 x2 x3 x4 => nsubD_ W p q c d a b x1 x2 x3 x4 (by omega) (by omega) (by omega)) w
end Go.Proofs.YthmeefigiekneaaGreatDoor
