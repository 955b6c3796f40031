import Derived.Test.YtjblehmafjcncaaDoorProg
import Derived.Test.YtjblehmafjcncaaDoorKXA0
import Derived.Test.YtjblehmafjcncaaDoorKXM
import Derived.Test.YtjblehmafjcncaaDoorKXT
import Derived.Test.YtjblehmafjcncaaDoorKAT
import Derived.Test.YtjblehmafjcncaaDoorKLB
import Derived.Test.YtjblehmafjcncaaDoorKLN
import Derived.Test.YtjblehmafjcncaaDoorKPR
import Derived.Test.YtjblehmafjcncaaDoorKXSL
import Derived.Test.YtjblehmafjcncaaDoorKNF
import Derived.Test.YtjblehmafjcncaaDoorKXQ
import Derived.Test.YtjblehmafjcncaaDoorKTO
import Derived.Test.YtjblehmafjcncaaDoorKHB
import Derived.Test.YtjblehmafjcncaaDoorKXTZ
import Derived.Test.YtjblehmafjcncaaDoorKBW
import Derived.Test.YtjblehmafjcncaaDoorKNSm
import Derived.Test.YtjblehmafjcncaaDoorKW4
import Derived.Test.YtjblehmafjcncaaDoorKRW
import Derived.Test.YtjblehmafjcncaaDoorKXNM
import Derived.Test.YtjblehmafjcncaaDoorKXNQ
import Derived.Test.YtjblehmafjcncaaDoorKXS
import Derived.WalkKit
import Derived.ProofKit
import Derived.RowKit3
import Derived.WalkSpells
import Derived.StillTactics
import Derived.Deep.QuietTactic
import Derived.BigQuiet
import Derived.Below
import Derived.Deep.OwnRows
import Derived.OwnWalk
namespace Go.Proofs.YtjblehmafjcncaaDoor
open Go.RowKit
set_option maxRecDepth 20000 in
set_option maxHeartbeats 1000000 in
theorem root2_ (p : Option Addr) (c : Nat) (xs : List Int) (w : World) (hx : Arr w p xs) (hwx : Wd xs) (l2 : xs.length ≤ 2) :
    Calls Tryd.prog 43 #[.slice p xs.length c] w fun e w' => ∃ v, e = .returned v ∧ Two w' w.heap.size (dig (rtN (val xs))) (dig (val xs - rtN (val xs) * rtN (val xs))) v ∧ Kp w w' := by
  have hlo := lowest_ p c xs w hx hwx l2
  have hv : val xs < 18446744073709551616 := by
    have h1 := val_lt xs hwx
    have h2 : 4294967296 ^ xs.length ≤ 4294967296 ^ 2 := Nat.pow_le_pow_right (by omega) l2
    have h3 : (4294967296 : Nat) ^ 2 = 18446744073709551616 := by decide
    omega
  have hrw := rootOfWord_ (val xs) hv w
  obtain ⟨N, hN⟩ : ∃ N, N = xs.length := ⟨_, rfl⟩
  obtain ⟨V, hV⟩ : ∃ V, V = val xs := ⟨_, rfl⟩
  rw [← hN, ← hV] at hlo
  rw [← hV] at hrw
  rw [← hN, ← hV]
  have t1 : (N : Int) ≤ 2 := by omega
  clear hx hwx l2 hv hN hV
  go_enter Tryd.func43, Tryd.ntmps43
  go_wp2_with fail
  refine hlo.mono ?_; rintro e w' ⟨rfl, hw'⟩; obtain rfl := hw'.symm; clear hlo
  go_wp2_with fail
  refine hrw.mono ?_
  rintro e w2 ⟨v, rfl, ⟨p1, c1, p2, c2, rfl, o1, o2, hne⟩, hk2⟩
  obtain ⟨L1, hL1⟩ : ∃ L1, L1 = (dig (rtN V)).length := ⟨_, rfl⟩
  obtain ⟨L2, hL2⟩ : ∃ L2, L2 = (dig (V - rtN V * rtN V)).length := ⟨_, rfl⟩
  have HZ : Hid (Two w2 w.heap.size (dig (rtN V)) (dig (V - rtN V * rtN V)) (.tuple #[.slice p1 L1 c1, .slice p2 L2 c2]) ∧ Kp w w2) := ⟨⟨p1, c1, p2, c2, by rw [hL1, hL2], o1, o2, hne⟩, hk2⟩
  rw [← hL1, ← hL2]
  clear hrw o1 o2 hne hk2 hL1 hL2 t1
  go_wp2
  exact bodyPost_ret (v := .tuple #[.slice p1 L1 c1, .slice p2 L2 c2]) (by simp [results, Tryd.results43, go_sem]) rfl ⟨_, rfl, HZ.out.1, HZ.out.2⟩
set_option maxRecDepth 20000 in
set_option maxHeartbeats 1000000 in
theorem nroot_of (p : Option Addr) (c : Nat) (xs : List Int) (w : World) (hx : Arr w p xs) (hwx : Wd xs) (lx : xs.length ≤ 1048576) (hc : xs.length ≤ c)
    (hroot : ¬ 16384 < tl xs → Calls Tryd.prog 43 #[.slice p (tl xs) c] w fun e w' => ∃ v, e = .returned v ∧ Two w' w.heap.size (dig (rtN (val xs))) (dig (val xs - rtN (val xs) * rtN (val xs))) v ∧ Kp w w') :
    Calls Tryd.prog 20 #[.slice p xs.length c] w fun e w' => ∃ v, e = .returned (.tuple #[v, .bool (rootN (val xs)).2.1, .int .i64 (rootN (val xs)).2.2]) ∧ Own w' w.heap.size v (rootN (val xs)).1 ∧ Kp w w' := by
  have h1 := trim_ p c xs w hx (by omega) hc
  have l1 := tooLong_ p (tl xs) c w
  have hlx : tl xs = len32 (val xs) := tl_len xs hwx
  obtain ⟨N, hN⟩ : ∃ N, N = xs.length := ⟨_, rfl⟩
  obtain ⟨S, hS⟩ : ∃ S, S = tl xs := ⟨_, rfl⟩
  obtain ⟨V, hV⟩ : ∃ V, V = val xs := ⟨_, rfl⟩
  rw [← hN, ← hS] at h1
  rw [← hS] at l1 hlx hroot
  rw [← hV] at hlx hroot
  rw [← hN, ← hV]
  clear hx hwx lx hc hN hS hV
  unfold rootN
  by_cases cl : 16384 < len32 V
  · rw [← hlx] at cl ⊢
    simp only [if_pos cl]
    rw [decide_eq_true cl] at l1
    clear hroot hlx cl
    go_enter Tryd.func20, Tryd.ntmps20
    go_wp2_with fail
    refine h1.mono ?_; rintro e w' ⟨rfl, hw'⟩; obtain rfl := hw'.symm; clear h1
    go_wp2_with fail
    refine l1.mono ?_; rintro e w' ⟨rfl, hw'⟩; obtain rfl := hw'.symm; clear l1
    go_wp2
    exact bodyPost_ret (v := .tuple #[.slice none 0 0, .bool false, .int .i64 2]) (by simp [results, Tryd.results20, go_sem]) rfl ⟨_, rfl, Own.nil _ _, Kp.refl _⟩
  · rw [← hlx] at cl ⊢
    simp only [if_neg cl]
    have hr := hroot cl
    rw [decide_eq_false cl] at l1
    obtain ⟨D, hD⟩ : ∃ D, D = V - rtN V * rtN V := ⟨_, rfl⟩
    obtain ⟨R, hR⟩ : ∃ R, R = rtN V := ⟨_, rfl⟩
    have hle := (rtN_is V).1
    rw [← hD, ← hR] at hr
    rw [← hR] at hle hD ⊢
    have hb : decide (V = R * R) = decide (D = 0) := by
      by_cases e : D = 0
      · rw [decide_eq_true e, decide_eq_true (by omega)]
      · rw [decide_eq_false e, decide_eq_false (by omega)]
    rw [hb]
    clear hroot hlx cl hD hR hle hb
    go_enter Tryd.func20, Tryd.ntmps20
    go_wp2_with fail
    refine h1.mono ?_; rintro e w' ⟨rfl, hw'⟩; obtain rfl := hw'.symm; clear h1
    go_wp2_with fail
    refine l1.mono ?_; rintro e w' ⟨rfl, hw'⟩; obtain rfl := hw'.symm; clear l1
    go_wp2_with fail
    refine hr.mono ?_
    rintro e w2 ⟨v, rfl, ⟨p1, c1, p2, c2, rfl, o1, o2, hne⟩, hk2⟩
    obtain ⟨L1, hL1⟩ : ∃ L1, L1 = (dig R).length := ⟨_, rfl⟩
    obtain ⟨L2, hL2⟩ : ∃ L2, L2 = (dig D).length := ⟨_, rfl⟩
    have h0 := dig_len_zero D
    rw [← hL2] at h0
    obtain ⟨bb, hbb⟩ : ∃ bb, bb = decide (D = 0) := ⟨_, rfl⟩
    have tb : decide ((L2 : Int) = 0) = bb := by
      rw [hbb]
      by_cases e : D = 0
      · rw [decide_eq_true e, decide_eq_true (by have := h0.2 e; omega)]
      · rw [decide_eq_false e, decide_eq_false (by have := mt h0.1 e; omega)]
    have tb2 : ((L2 : Int) == 0) = bb := tb
    have HZ : Hid (Own w2 w.heap.size (.slice p1 L1 c1) (dig R) ∧ Kp w w2 ∧ bb = decide (D = 0)) := ⟨by rw [hL1]; exact o1, hk2, hbb⟩
    rw [← hL1, ← hL2]
    clear hr o1 o2 hne hk2 hL1 hL2 h0 hbb tb
    go_wp2
    exact bodyPost_ret (v := .tuple #[.slice p1 L1 c1, .bool bb, .int .i64 0]) (by simp [results, Tryd.results20, go_sem]) rfl ⟨_, by rw [HZ.out.2.2], HZ.out.1, HZ.out.2.1⟩
theorem row3 (w : World) (x y z : Int) : Rw (w.alloc (.cells #[.int .u32 x, .int .u32 y, .int .u32 z] 38)) w.heap.size 3 [x, y, z] := by
  have := World.rowIs_alloc w #[.int .u32 x, .int .u32 y, .int .u32 z] 38 (fun i => .int .u32 ([x, y, z].getD i 0)) (fun i hi => by
    have h : i = 0 ∨ i = 1 ∨ i = 2 := by simp at hi; omega
    rcases h with rfl | rfl | rfl <;> rfl)
  exact this
set_option maxRecDepth 20000 in
set_option maxHeartbeats 1000000 in
theorem lives_ (w : World) : Calls Tryd.prog 11 #[] w fun e w' => e = .returned (.bool true) ∧ Kp w w' := by
  obtain ⟨g1, hg1⟩ : ∃ g1, g1 = w.heap.size := ⟨_, rfl⟩
  obtain ⟨w1, hw1⟩ : ∃ w1, w1 = (w).alloc (.cells #[.int .u32 4294967295] 38) := ⟨_, rfl⟩
  have kp1 : Kp w w1 := by rw [hw1]; exact (Kp.refl _).alloc _
  have ar1 : Arr w1 (some ⟨g1, 0, none⟩) [4294967295] := by
    have h := (row1 w 4294967295).all rfl
    rw [← hw1] at h
    rw [show g1 = w.heap.size from by exact hg1]
    exact h
  obtain ⟨w2, hw2⟩ : ∃ w2, w2 = (w1).alloc (.cells #[.int .u32 4294967295] 38) := ⟨_, rfl⟩
  have kp2 : Kp w1 w2 := by rw [hw2]; exact (Kp.refl _).alloc _
  have ar2 : Arr w2 (some ⟨g1 + 1, 0, none⟩) [4294967295] := by
    have h := (row1 w1 4294967295).all rfl
    rw [← hw2] at h
    rw [show g1 + 1 = w1.heap.size from by rw [hg1, hw1]; simp]
    exact h
  have hm := nmul_ (some ⟨g1, 0, none⟩) (some ⟨g1 + 1, 0, none⟩) 1 1 [4294967295] [4294967295] w2 (ar1.grown kp2) ar2 (wd1 4294967295 (by decide)) (wd1 4294967295 (by decide)) (by simp) (by simp) (by simp) (by simp)
  rw [val_m, mul_lives] at hm
  have HK : Hid (Kp w w2) := kp1.trans kp2
  have hm' : Calls Tryd.prog 33 #[.slice (some ⟨g1, 0, none⟩) 1 1, .slice (some ⟨g1 + 1, 0, none⟩) 1 1] w2 fun e w' => ∃ v, e = .returned (.tuple #[v, .int .i64 0]) ∧ Own w' w2.heap.size v [1, 4294967294] ∧ Kp w2 w' := hm
  clear kp1 kp2 ar1 ar2 hm
  go_enter Tryd.func11, Tryd.ntmps11
  go_wp2_with fail
  rw [← hw1, ← hw2, ← hg1]
  refine hm'.mono ?_
  rintro e wa ⟨vp, rfl, hOp, hka⟩
  have hKa : Kp w wa := HK.out.trans hka
  obtain ⟨pp, cp, rfl, hAp, _⟩ := hOp.arr
  have HA : Hid (Kp w wa ∧ Arr wa pp [1, 4294967294]) := ⟨hKa, hAp⟩
  clear hm' HK hOp hka hKa hAp hw1 hw2 hg1
  obtain ⟨g3, hg3⟩ : ∃ g3, g3 = wa.heap.size := ⟨_, rfl⟩
  obtain ⟨w3, hw3⟩ : ∃ w3, w3 = (wa).alloc (.cells #[.int .u32 0, .int .u32 0, .int .u32 2147483648] 38) := ⟨_, rfl⟩
  have kp3 : Kp wa w3 := by rw [hw3]; exact (Kp.refl _).alloc _
  have ar3 : Arr w3 (some ⟨g3, 0, none⟩) [0, 0, 2147483648] := by
    have h := (row3 wa 0 0 2147483648).all rfl
    rw [← hw3] at h
    rw [show g3 = wa.heap.size from by exact hg3]
    exact h
  obtain ⟨w4, hw4⟩ : ∃ w4, w4 = (w3).alloc (.cells #[.int .u32 1, .int .u32 2147483648] 38) := ⟨_, rfl⟩
  have kp4 : Kp w3 w4 := by rw [hw4]; exact (Kp.refl _).alloc _
  have ar4 : Arr w4 (some ⟨g3 + 1, 0, none⟩) [1, 2147483648] := by
    have h := (row2 w3 1 2147483648).all rfl
    rw [← hw4] at h
    rw [show g3 + 1 = w3.heap.size from by rw [hg3, hw3]; simp]
    exact h
  have hq := nquo_ (some ⟨g3, 0, none⟩) (some ⟨g3 + 1, 0, none⟩) 3 2 [0, 0, 2147483648] [1, 2147483648] w4 (ar3.grown kp4) ar4 (wd3 0 0 2147483648 (by decide) (by decide) (by decide)) (wd2 1 2147483648 (by decide) (by decide)) (by simp) (by simp) (by simp) (by simp)
  rw [val_a, val_b, quo_lives] at hq
  have hq' : Calls Tryd.prog 18 #[.slice (some ⟨g3, 0, none⟩) 3 3, .slice (some ⟨g3 + 1, 0, none⟩) 2 2] w4 fun e w' => (∃ p1 c1 p2 c2, e = .returned (.tuple #[.slice p1 1 c1, .slice p2 2 c2, .int .i64 0]) ∧ Own w' w4.heap.size (.slice p1 1 c1) [4294967295] ∧ Own w' w4.heap.size (.slice p2 2 c2) [1, 2147483647] ∧ (∀ g, p1 = some ⟨g, 0, none⟩ → p2 ≠ some ⟨g, 0, none⟩)) ∧ Kp w4 w' := hq
  have HB : Hid (Kp wa w4) := kp3.trans kp4
  clear kp3 kp4 ar3 ar4 hq
  go_wp2_with fail
  rw [← hw3, ← hw4, ← hg3]
  refine hq'.mono ?_
  rintro e wb ⟨⟨pq, cq, pr, cr, rfl, hOq, hOr, _⟩, hkb⟩
  have hKb : Kp wa wb := HB.out.trans hkb
  have HB2 : Hid (Kp wa wb ∧ Arr wb pq [4294967295] ∧ Arr wb pr [1, 2147483647]) := ⟨hKb, hOq.arr', hOr.arr'⟩
  clear hq' HB hOq hOr hkb hKb hw3 hw4 hg3
  obtain ⟨g5, hg5⟩ : ∃ g5, g5 = wb.heap.size := ⟨_, rfl⟩
  obtain ⟨w5, hw5⟩ : ∃ w5, w5 = (wb).alloc (.cells #[.int .u32 25] 38) := ⟨_, rfl⟩
  have kp5 : Kp wb w5 := by rw [hw5]; exact (Kp.refl _).alloc _
  have ar5 : Arr w5 (some ⟨g5, 0, none⟩) [25] := by
    have h := (row1 wb 25).all rfl
    rw [← hw5] at h
    rw [show g5 = wb.heap.size from by exact hg5]
    exact h
  have hr := nroot_of (some ⟨g5, 0, none⟩) 1 [25] w5 ar5 (wd1 25 (by decide)) (by simp) (by simp) (fun _ => by
    have h := root2_ (some ⟨g5, 0, none⟩) 1 [25] w5 ar5 (wd1 25 (by decide)) (by simp)
    exact h)
  rw [val_25, root_lives] at hr
  have hr' : Calls Tryd.prog 20 #[.slice (some ⟨g5, 0, none⟩) 1 1] w5 fun e w' => ∃ v, e = .returned (.tuple #[v, .bool true, .int .i64 0]) ∧ Own w' w5.heap.size v [5] ∧ Kp w5 w' := hr
  have HC : Hid (Kp wb w5) := kp5
  clear kp5 ar5 hr
  go_wp2_with fail
  rw [← hw5, ← hg5]
  refine hr'.mono ?_
  rintro e wc ⟨vs, rfl, hOs, hkc⟩
  obtain ⟨ps, cs, rfl, hAs, _⟩ := hOs.arr
  have hKc : Kp wb wc := HC.out.trans hkc
  obtain ⟨hKa, hAp⟩ := HA.out
  obtain ⟨hKb, hAq, hAr⟩ := HB2.out
  have HD : Hid (Kp w wc ∧ Arr wc pp [1, 4294967294] ∧ Arr wc pq [4294967295] ∧ Arr wc pr [1, 2147483647] ∧ Arr wc ps [5]) := ⟨(hKa.trans hKb).trans hKc, (hAp.grown hKb).grown hKc, hAq.grown hKc, hAr.grown hKc, hAs⟩
  clear hr' HC hOs hkc hKc hKa hAp hKb hAq hAr hAs HA HB2 hw5 hg5
  obtain ⟨gpp, hgpp⟩ : ∃ gpp, gpp = wc.heap.size := ⟨_, rfl⟩
  obtain ⟨xpp, hxpp⟩ : ∃ xpp, xpp = (wc).alloc (.cells #[.int .u32 1, .int .u32 4294967294] 38) := ⟨_, rfl⟩
  have kppp : Kp wc xpp := by rw [hxpp]; exact (Kp.refl _).alloc _
  have arpp : Arr xpp (some ⟨gpp, 0, none⟩) [1, 4294967294] := by
    have h := (row2 wc 1 4294967294).all rfl
    rw [← hxpp] at h
    rw [show gpp = wc.heap.size from by exact hgpp]
    exact h
  have hs := same_ pp (some ⟨gpp, 0, none⟩) cp 2 [1, 4294967294] [1, 4294967294] xpp (HD.out.2.1.grown kppp) arpp (by simp)
  rw [decide_eq_true rfl] at hs
  have hs' : Calls Tryd.prog 10 #[.slice pp 2 cp, .slice (some ⟨gpp, 0, none⟩) 2 2] xpp fun e w' => e = .returned (.bool true) ∧ Kp xpp w' := hs
  have HP : Hid (Kp wc xpp) := kppp
  clear kppp arpp hs
  go_wp2_with fail
  rw [← hxpp, ← hgpp]
  refine hs'.mono ?_
  rintro e ypp ⟨rfl, hk9⟩
  have HS0 : Hid (Kp wc ypp) := HP.out.trans hk9
  clear hs' HP hk9 hxpp hgpp
  obtain ⟨gpq, hgpq⟩ : ∃ gpq, gpq = ypp.heap.size := ⟨_, rfl⟩
  obtain ⟨xpq, hxpq⟩ : ∃ xpq, xpq = (ypp).alloc (.cells #[.int .u32 4294967295] 38) := ⟨_, rfl⟩
  have kppq : Kp ypp xpq := by rw [hxpq]; exact (Kp.refl _).alloc _
  have arpq : Arr xpq (some ⟨gpq, 0, none⟩) [4294967295] := by
    have h := (row1 ypp 4294967295).all rfl
    rw [← hxpq] at h
    rw [show gpq = ypp.heap.size from by exact hgpq]
    exact h
  have hs := same_ pq (some ⟨gpq, 0, none⟩) cq 1 [4294967295] [4294967295] xpq ((HD.out.2.2.1.grown HS0.out).grown kppq) arpq (by simp)
  rw [decide_eq_true rfl] at hs
  have hs' : Calls Tryd.prog 10 #[.slice pq 1 cq, .slice (some ⟨gpq, 0, none⟩) 1 1] xpq fun e w' => e = .returned (.bool true) ∧ Kp xpq w' := hs
  have HP : Hid (Kp wc xpq) := HS0.out.trans kppq
  clear kppq arpq hs
  go_wp2_with fail
  rw [← hxpq, ← hgpq]
  refine hs'.mono ?_
  rintro e ypq ⟨rfl, hk9⟩
  have HS1 : Hid (Kp wc ypq) := HP.out.trans hk9
  clear hs' HP hk9 hxpq hgpq
  obtain ⟨gpr, hgpr⟩ : ∃ gpr, gpr = ypq.heap.size := ⟨_, rfl⟩
  obtain ⟨xpr, hxpr⟩ : ∃ xpr, xpr = (ypq).alloc (.cells #[.int .u32 1, .int .u32 2147483647] 38) := ⟨_, rfl⟩
  have kppr : Kp ypq xpr := by rw [hxpr]; exact (Kp.refl _).alloc _
  have arpr : Arr xpr (some ⟨gpr, 0, none⟩) [1, 2147483647] := by
    have h := (row2 ypq 1 2147483647).all rfl
    rw [← hxpr] at h
    rw [show gpr = ypq.heap.size from by exact hgpr]
    exact h
  have hs := same_ pr (some ⟨gpr, 0, none⟩) cr 2 [1, 2147483647] [1, 2147483647] xpr ((HD.out.2.2.2.1.grown HS1.out).grown kppr) arpr (by simp)
  rw [decide_eq_true rfl] at hs
  have hs' : Calls Tryd.prog 10 #[.slice pr 2 cr, .slice (some ⟨gpr, 0, none⟩) 2 2] xpr fun e w' => e = .returned (.bool true) ∧ Kp xpr w' := hs
  have HP : Hid (Kp wc xpr) := HS1.out.trans kppr
  clear kppr arpr hs
  go_wp2_with fail
  rw [← hxpr, ← hgpr]
  refine hs'.mono ?_
  rintro e ypr ⟨rfl, hk9⟩
  have HS2 : Hid (Kp wc ypr) := HP.out.trans hk9
  clear hs' HP hk9 hxpr hgpr
  obtain ⟨gps, hgps⟩ : ∃ gps, gps = ypr.heap.size := ⟨_, rfl⟩
  obtain ⟨xps, hxps⟩ : ∃ xps, xps = (ypr).alloc (.cells #[.int .u32 5] 38) := ⟨_, rfl⟩
  have kpps : Kp ypr xps := by rw [hxps]; exact (Kp.refl _).alloc _
  have arps : Arr xps (some ⟨gps, 0, none⟩) [5] := by
    have h := (row1 ypr 5).all rfl
    rw [← hxps] at h
    rw [show gps = ypr.heap.size from by exact hgps]
    exact h
  have hs := same_ ps (some ⟨gps, 0, none⟩) cs 1 [5] [5] xps ((HD.out.2.2.2.2.grown HS2.out).grown kpps) arps (by simp)
  rw [decide_eq_true rfl] at hs
  have hs' : Calls Tryd.prog 10 #[.slice ps 1 cs, .slice (some ⟨gps, 0, none⟩) 1 1] xps fun e w' => e = .returned (.bool true) ∧ Kp xps w' := hs
  have HP : Hid (Kp wc xps) := HS2.out.trans kpps
  clear kpps arps hs
  go_wp2_with fail
  rw [← hxps, ← hgps]
  refine hs'.mono ?_
  rintro e yps ⟨rfl, hk9⟩
  have HS3 : Hid (Kp wc yps) := HP.out.trans hk9
  clear hs' HP hk9 hxps hgps
  go_wp2
  exact bodyPost_ret (v := .bool true) (by simp [results, Tryd.results11, go_sem]) rfl ⟨rfl, HD.out.1.trans HS3.out⟩
end Go.Proofs.YtjblehmafjcncaaDoor
