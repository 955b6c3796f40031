import Derived.Test.YtkjcnnjgaififaaDoorProg
import Derived.Test.YtkjcnnjgaififaaDoorKA
import Derived.Test.YtkjcnnjgaififaaDoorKA2
import Derived.Test.YtkjcnnjgaififaaDoorKA3
import Derived.Test.YtkjcnnjgaififaaDoorKA4
import Derived.Test.YtkjcnnjgaififaaDoorKXM
import Derived.Test.YtkjcnnjgaififaaDoorKXT
import Derived.Test.YtkjcnnjgaififaaDoorKA5
import Derived.Test.YtkjcnnjgaififaaDoorKAT
import Derived.Test.YtkjcnnjgaififaaDoorKLB
import Derived.Test.YtkjcnnjgaififaaDoorKLN
import Derived.Test.YtkjcnnjgaififaaDoorKPR
import Derived.Test.YtkjcnnjgaififaaDoorKSL
import Derived.Test.YtkjcnnjgaififaaDoorKSR
import Derived.Test.YtkjcnnjgaififaaDoorKNF
import Derived.Test.YtkjcnnjgaififaaDoorKXQ
import Derived.Test.YtkjcnnjgaififaaDoorKTO
import Derived.Test.YtkjcnnjgaififaaDoorKHB
import Derived.Test.YtkjcnnjgaififaaDoorKZE
import Derived.Test.YtkjcnnjgaififaaDoorKTZ
import Derived.Test.YtkjcnnjgaififaaDoorKRC
import Derived.Test.YtkjcnnjgaififaaDoorKRN
import Derived.Test.YtkjcnnjgaififaaDoorKRL
import Derived.Test.YtkjcnnjgaififaaDoorKRR
import Derived.Test.YtkjcnnjgaififaaDoorKBW
import Derived.Test.YtkjcnnjgaififaaDoorKBY
import Derived.WalkKit
import Derived.ProofKit
import Derived.RowKit3
import Derived.WalkSpells
import Derived.StillTactics
import Derived.Deep.QuietTactic
import Derived.BigQuiet
import Derived.Below
import Derived.Deep.OwnRows
import Derived.OwnWalk
namespace Go.Proofs.YtkjcnnjgaififaaDoor
open Go.RowKit
set_option maxRecDepth 20000 in
set_option maxHeartbeats 1000000 in
theorem rquo_ (p q : Option Addr) (c d : Nat) (xs ys : List Int) (w : World) (hx : Arr w p xs) (hy : Arr w q ys) (hwx : Wd xs) (hwy : Wd ys) (lx : xs.length ≤ 1048576) (ly : ys.length ≤ 1048576) :
    Calls Tryd.prog 60 #[.slice p xs.length c, .slice q ys.length d] w fun e w' => (∃ p1 c1 p2 c2, e = .returned (.tuple #[.slice p1 (quoN (val xs) (val ys)).1.length c1, .slice p2 (quoN (val xs) (val ys)).2.1.length c2, .int .i64 (quoN (val xs) (val ys)).2.2]) ∧ Own w' w.heap.size (.slice p1 (quoN (val xs) (val ys)).1.length c1) (quoN (val xs) (val ys)).1 ∧ Own w' w.heap.size (.slice p2 (quoN (val xs) (val ys)).2.1.length c2) (quoN (val xs) (val ys)).2.1 ∧ (∀ g, p1 = some ⟨g, 0, none⟩ → p2 ≠ some ⟨g, 0, none⟩)) ∧ Kp w w' := by
  have h1 := words_ q d ys w hy (by omega)
  have l1 := long_ p c xs w hx (by omega)
  have l2 := long_ q d ys w hy (by omega)
  have hqu := fun ht h0 => rby_ p q c d xs ys w hx hy hwx hwy lx ly ht h0
  have hlx : tl xs = len32 (val xs) := tl_len xs hwx
  have hly : tl ys = len32 (val ys) := tl_len ys hwy
  obtain ⟨N, hN⟩ : ∃ N, N = xs.length := ⟨_, rfl⟩
  obtain ⟨M, hM⟩ : ∃ M, M = ys.length := ⟨_, rfl⟩
  obtain ⟨S, hS⟩ : ∃ S, S = tl xs := ⟨_, rfl⟩
  obtain ⟨T, hT⟩ : ∃ T, T = tl ys := ⟨_, rfl⟩
  rw [← hM, ← hT] at h1
  rw [← hN, ← hS] at l1
  rw [← hM, ← hT] at l2
  rw [← hN, ← hM, ← hT] at hqu
  rw [← hS] at hlx
  rw [← hT] at hly
  rw [← hN, ← hM]
  have hT0 : T = 0 ↔ val ys = 0 := by
    rw [hly]
    constructor
    · intro e
      unfold len32 at e
      have := List.length_eq_zero_iff.1 e
      have h := val_dig (val ys)
      rw [this] at h
      exact h.symm
    · intro e
      rw [e]
      unfold len32
      rw [dig_zero]; rfl
  clear hx hy hwx hwy lx ly hN hM hS hT
  unfold quoN
  by_cases c0 : val ys = 0
  · have t0 : T = 0 := hT0.2 c0
    subst t0
    simp only [if_pos c0]
    clear hqu hT0 hlx hly c0
    go_enter Tryd.func60, Tryd.ntmps60
    go_wp2_with fail
    refine h1.mono ?_; rintro e w' ⟨rfl, hw'⟩; obtain rfl := hw'.symm; clear h1
    go_wp2
    exact bodyPost_ret (v := .tuple #[.slice none 0 0, .slice none 0 0, .int .i64 1]) (by simp [results, Tryd.results60, go_sem]) rfl ⟨⟨none, 0, none, 0, rfl, Own.nil _ _, Own.nil _ _, fun g e => by cases e⟩, Kp.refl _⟩
  · have t0 : ¬ (T : Int) = 0 := by have := mt hT0.1 c0; omega
    simp only [if_neg c0]
    clear hT0
    by_cases cl : 16384 < len32 (val xs) ∨ 16384 < len32 (val ys)
    · simp only [if_pos cl]
      rw [← hlx, ← hly] at cl
      by_cases ca : 16384 < S
      · rw [decide_eq_true ca] at l1
        clear hqu hlx hly cl ca c0
        go_enter Tryd.func60, Tryd.ntmps60
        go_wp2_with fail
        refine h1.mono ?_; rintro e w' ⟨rfl, hw'⟩; obtain rfl := hw'.symm; clear h1
        go_wp2_with fail
        refine l1.mono ?_; rintro e w' ⟨rfl, hw'⟩; obtain rfl := hw'.symm; clear l1
        go_wp2
        exact bodyPost_ret (v := .tuple #[.slice none 0 0, .slice none 0 0, .int .i64 2]) (by simp [results, Tryd.results60, go_sem]) rfl ⟨⟨none, 0, none, 0, rfl, Own.nil _ _, Own.nil _ _, fun g e => by cases e⟩, Kp.refl _⟩
      · rw [decide_eq_false ca] at l1
        rw [decide_eq_true (show 16384 < T by omega)] at l2
        clear hqu hlx hly cl ca c0
        go_enter Tryd.func60, Tryd.ntmps60
        go_wp2_with fail
        refine h1.mono ?_; rintro e w' ⟨rfl, hw'⟩; obtain rfl := hw'.symm; clear h1
        go_wp2_with fail
        refine l1.mono ?_; rintro e w' ⟨rfl, hw'⟩; obtain rfl := hw'.symm; clear l1
        go_wp2_with fail
        refine l2.mono ?_; rintro e w' ⟨rfl, hw'⟩; obtain rfl := hw'.symm; clear l2
        go_wp2
        exact bodyPost_ret (v := .tuple #[.slice none 0 0, .slice none 0 0, .int .i64 2]) (by simp [results, Tryd.results60, go_sem]) rfl ⟨⟨none, 0, none, 0, rfl, Own.nil _ _, Own.nil _ _, fun g e => by cases e⟩, Kp.refl _⟩
    · simp only [if_neg cl]
      rw [← hlx, ← hly] at cl
      rw [decide_eq_false (show ¬ 16384 < S by omega)] at l1
      rw [decide_eq_false (show ¬ 16384 < T by omega)] at l2
      have hqu2 := hqu (by omega) (by omega)
      clear hqu hlx hly cl c0
      go_enter Tryd.func60, Tryd.ntmps60
      go_wp2_with fail
      refine h1.mono ?_; rintro e w' ⟨rfl, hw'⟩; obtain rfl := hw'.symm; clear h1
      go_wp2_with fail
      refine l1.mono ?_; rintro e w' ⟨rfl, hw'⟩; obtain rfl := hw'.symm; clear l1
      go_wp2_with fail
      refine l2.mono ?_; rintro e w' ⟨rfl, hw'⟩; obtain rfl := hw'.symm; clear l2
      go_wp2_with fail
      refine hqu2.mono ?_
      rintro e w2 ⟨v, rfl, ⟨p1, c1, p2, c2, rfl, o1, o2, hne⟩, hk2⟩
      obtain ⟨L1, hL1⟩ : ∃ L1, L1 = (dig (val xs / val ys)).length := ⟨_, rfl⟩
      obtain ⟨L2, hL2⟩ : ∃ L2, L2 = (dig (val xs % val ys)).length := ⟨_, rfl⟩
      have HZ : Hid ((∃ p1' c1' p2' c2', Ending.returned (Value.tuple #[.slice p1 L1 c1, .slice p2 L2 c2, .int .i64 0]) = .returned (.tuple #[.slice p1' (dig (val xs / val ys)).length c1', .slice p2' (dig (val xs % val ys)).length c2', .int .i64 0]) ∧ Own w2 w.heap.size (.slice p1' (dig (val xs / val ys)).length c1') (dig (val xs / val ys)) ∧ Own w2 w.heap.size (.slice p2' (dig (val xs % val ys)).length c2') (dig (val xs % val ys)) ∧ (∀ g, p1' = some ⟨g, 0, none⟩ → p2' ≠ some ⟨g, 0, none⟩)) ∧ Kp w w2) := ⟨⟨p1, c1, p2, c2, by rw [hL1, hL2], o1, o2, hne⟩, hk2⟩
      rw [← hL1, ← hL2]
      clear hqu2 o1 o2 hne hk2 hL1 hL2 t0
      go_wp2
      exact bodyPost_ret (v := .tuple #[.slice p1 L1 c1, .slice p2 L2 c2, .int .i64 0]) (by simp [results, Tryd.results60, go_sem]) rfl HZ.out
end Go.Proofs.YtkjcnnjgaififaaDoor
