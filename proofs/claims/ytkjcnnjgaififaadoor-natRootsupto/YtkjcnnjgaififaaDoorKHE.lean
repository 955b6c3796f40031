import Derived.Test.YtkjcnnjgaififaaDoorKXA
import Derived.Test.YtkjcnnjgaififaaDoorProg
import Derived.Test.YtkjcnnjgaififaaDoorKA
import Derived.Test.YtkjcnnjgaififaaDoorKA2
import Derived.Test.YtkjcnnjgaififaaDoorKA3
import Derived.Test.YtkjcnnjgaififaaDoorKA4
import Derived.Test.YtkjcnnjgaififaaDoorKA5
import Derived.Test.YtkjcnnjgaififaaDoorKA6
import Derived.Test.YtkjcnnjgaififaaDoorKXM
import Derived.Test.YtkjcnnjgaififaaDoorKXS
import Derived.Test.YtkjcnnjgaififaaDoorKHB
import Derived.Test.YtkjcnnjgaififaaDoorKAP
import Derived.WalkKit
import Derived.ProofKit
import Derived.RowKit3
import Derived.WalkSpells
import Derived.StillTactics
import Derived.Deep.QuietTactic
import Derived.BigQuiet
import Derived.Below
import Derived.Deep.OwnRows
import Derived.OwnWalk
import Derived.Deep.RegionHeld3
namespace Go.Proofs.YtkjcnnjgaififaaDoor
open Go.RowKit
set_option maxRecDepth 20000 in
set_option maxHeartbeats 4000000 in
theorem held_ (k v n : Int) (G : List Int → List Int → Rs) (hask : Asks 27 k v n G) (hwant : Asks 28 k v n G) (p q : Option Addr) (c d : Nat) (xs ys : List Int) (w : World) (hx : Arr w p xs) (hy : Arr w q ys) (hwx : Wd xs) (hwy : Wd ys) (lx : xs.length ≤ 1048576) (ly : ys.length ≤ 1048576) (hG : ∀ us vs, us.length ≤ 1048576 → vs.length ≤ 1048576 → (G us vs).l1.length ≤ 549755813888 ∧ (G us vs).l2.length ≤ 549755813888) :
    Calls Tryd.prog 18 #[.int .i64 k, .slice p xs.length c, .slice q ys.length d, .int .u64 v, .int .i64 n] w fun e w' => e = .returned (.bool true) ∧ Kp w w' := by
  have ol := oth_len xs
  have HA : Hid (Asks 27 k v n G) := hask
  have HW : Hid (Asks 28 k v n G) := hwant
  have HX : Hid (Arr w p xs ∧ Arr w q ys) := ⟨hx, hy⟩
  obtain ⟨R1, hR1⟩ : ∃ R, R = G xs ys := ⟨_, rfl⟩
  obtain ⟨R2, hR2⟩ : ∃ R, R = G (oth xs) ys := ⟨_, rfl⟩
  obtain ⟨R3, hR3⟩ : ∃ R, R = G xs xs := ⟨_, rfl⟩
  have HB : Hid ((R1.l1.length ≤ 549755813888 ∧ R1.l2.length ≤ 549755813888) ∧ (R2.l1.length ≤ 549755813888 ∧ R2.l2.length ≤ 549755813888) ∧ (R3.l1.length ≤ 549755813888 ∧ R3.l2.length ≤ 549755813888)) := ⟨by rw [hR1]; exact hG _ _ lx ly, by rw [hR2]; exact hG _ _ (by omega) ly, by rw [hR3]; exact hG _ _ lx lx⟩
  obtain ⟨N, hN⟩ : ∃ N, N = xs.length := ⟨_, rfl⟩
  obtain ⟨M, hM⟩ : ∃ M, M = ys.length := ⟨_, rfl⟩
  obtain ⟨ts, hts⟩ : ∃ ts, ts = oth xs := ⟨_, rfl⟩
  have hwt := oth_wd xs hwx
  have hot : ∀ (p : Option Addr) (c : Nat) (w : World) (hx : Arr w p xs) (lx : xs.length ≤ 1099511627776), Calls Tryd.prog 42 #[.slice p xs.length c] w fun e w' => ∃ g, e = .returned (.slice (some ⟨g, 0, none⟩) xs.length xs.length) ∧ w.heap.size ≤ g ∧ Rw w' g xs.length ts ∧ Kp w w' := by rw [hts]; exact fun p c w => other_ p c xs w
  have HO : Hid (∀ (p : Option Addr) (c : Nat) (w : World) (hx : Arr w p xs) (lx : xs.length ≤ 1099511627776), Calls Tryd.prog 42 #[.slice p xs.length c] w fun e w' => ∃ g, e = .returned (.slice (some ⟨g, 0, none⟩) xs.length xs.length) ∧ w.heap.size ≤ g ∧ Rw w' g xs.length ts ∧ Kp w w') := hot
  rw [← hts] at hwt ol hR2
  have HP : Hid (Wd xs ∧ Wd ys ∧ Wd ts) := ⟨hwx, hwy, hwt⟩
  have HR : Hid (R1 = G xs ys ∧ R2 = G ts ys ∧ R3 = G xs xs) := ⟨hR1, hR2, hR3⟩
  rw [← hN, ← hM]
  rw [← hN] at lx ol
  rw [← hM] at ly
  have HN : Hid (N = xs.length ∧ M = ys.length ∧ N = ts.length) := ⟨hN, hM, ol.symm⟩
  have K : Kp w w := Kp.refl w
  clear hask hwant hx hy hwx hwy hG hN hM ol hts hot hwt hR1 hR2 hR3
  go_enter Tryd.func18, Tryd.ntmps18
  go_wp2_with fail
  have q1 := copied_ p c xs w HX.out.1 (by have := HN.out.1; omega)
  rw [← HN.out.1] at q1
  refine q1.mono ?_
  clear q1
  rintro e w1 ⟨gu, rfl, hgu, rgu, kk⟩
  have o1 : w.heap.size ≤ w1.heap.size := kk.size
  replace K := K.trans kk
  have tgu := World.rowIs.lt rgu
  clear kk
  go_wp2_with fail
  have q1 := copied_ q d ys w1 (HX.out.2.grown K) (by have := HN.out.2.1; omega)
  rw [← HN.out.2.1] at q1
  refine q1.mono ?_
  clear q1
  rintro e w2 ⟨gw, rfl, hgw, rgw, kk⟩
  have o2 : w1.heap.size ≤ w2.heap.size := kk.size
  replace rgu := rgu.grown kk
  replace K := K.trans kk
  have tgw := World.rowIs.lt rgw
  clear kk
  clear HX
  go_wp2_with fail
  have q1 := HO.out (some ⟨gu, 0, none⟩) N w2 (rgu.all HN.out.1.symm) (by have := HN.out.1; omega)
  rw [← HN.out.1] at q1
  refine q1.mono ?_
  clear q1
  rintro e w3 ⟨gt, rfl, hgt, rgt, kk⟩
  have o3 : w2.heap.size ≤ w3.heap.size := kk.size
  replace rgu := rgu.grown kk
  replace rgw := rgw.grown kk
  replace K := K.trans kk
  have tgt := World.rowIs.lt rgt
  clear kk
  go_wp2_with fail
  have q1 := copied_ (some ⟨gu, 0, none⟩) N xs w3 (rgu.all HN.out.1.symm) (by have := HN.out.1; omega)
  rw [← HN.out.1] at q1
  refine q1.mono ?_
  clear q1
  rintro e w4 ⟨g4, rfl, hg4, rg4, kk⟩
  have o4 : w3.heap.size ≤ w4.heap.size := kk.size
  replace rgu := rgu.grown kk
  replace rgw := rgw.grown kk
  replace rgt := rgt.grown kk
  replace K := K.trans kk
  have tg4 := World.rowIs.lt rg4
  clear kk
  go_wp2_with fail
  have q1 := copied_ (some ⟨gw, 0, none⟩) M ys w4 (rgw.all HN.out.2.1.symm) (by have := HN.out.2.1; omega)
  rw [← HN.out.2.1] at q1
  refine q1.mono ?_
  clear q1
  rintro e w5 ⟨g5, rfl, hg5, rg5, kk⟩
  have o5 : w4.heap.size ≤ w5.heap.size := kk.size
  replace rgu := rgu.grown kk
  replace rgw := rgw.grown kk
  replace rgt := rgt.grown kk
  replace rg4 := rg4.grown kk
  replace K := K.trans kk
  have tg5 := World.rowIs.lt rg5
  clear kk
  go_wp2_with fail
  have q1 := HW.out (some ⟨g4, 0, none⟩) (some ⟨g5, 0, none⟩) N M xs ys w5 (rg4.all HN.out.1.symm) (rg5.all HN.out.2.1.symm) HP.out.1 HP.out.2.1 (by have := HN.out.1; omega) (by have := HN.out.2.1; omega) (by have := HN.out.1; omega) (by have := HN.out.2.1; omega)
  rw [← HR.out.1, ← HN.out.1, ← HN.out.2.1] at q1
  refine q1.mono ?_
  clear q1
  rintro e w6 ⟨onep, onec, oneq, oned, rfl, one, kk⟩
  have o6 : w5.heap.size ≤ w6.heap.size := kk.size
  replace rgu := rgu.grown kk
  replace rgw := rgw.grown kk
  replace rgt := rgt.grown kk
  replace rg4 := rg4.grown kk
  replace rg5 := rg5.grown kk
  replace K := K.trans kk
  have oneb := one.bd
  clear kk
  have kk : Kp w6 (w6.alloc (.cells #[.slice onep R1.l1.length onec, .slice oneq R1.l2.length oned, .int .u64 R1.W, .int .i64 R1.Z, .bool R1.B, .int .i64 R1.E] 52)) := (Kp.refl _).alloc _
  have ones := Cs.born w6 52 R1 onep oneq onec oned
  have o6a : (w6.alloc (.cells #[.slice onep R1.l1.length onec, .slice oneq R1.l2.length oned, .int .u64 R1.W, .int .i64 R1.Z, .bool R1.B, .int .i64 R1.E] 52)).heap.size = w6.heap.size + 1 := by simp
  obtain ⟨w6a, hw6a⟩ : ∃ x, x = w6.alloc (.cells #[.slice onep R1.l1.length onec, .slice oneq R1.l2.length oned, .int .u64 R1.W, .int .i64 R1.Z, .bool R1.B, .int .i64 R1.E] 52) := ⟨_, rfl⟩
  rw [← hw6a] at kk ones o6a
  have Hw6a : Hid (w6a = w6.alloc (.cells #[.slice onep R1.l1.length onec, .slice oneq R1.l2.length oned, .int .u64 R1.W, .int .i64 R1.Z, .bool R1.B, .int .i64 R1.E] 52)) := hw6a
  clear hw6a
  replace rgu := rgu.grown kk
  replace rgw := rgw.grown kk
  replace rgt := rgt.grown kk
  replace rg4 := rg4.grown kk
  replace rg5 := rg5.grown kk
  replace one := one.grown kk
  replace K := K.trans kk
  clear kk
  clear rg4 rg5
  go_wp2_with fail
  rw [← Hw6a.out]
  clear Hw6a
  have q1 := copied_ (some ⟨gt, 0, none⟩) N ts w6a (rgt.all HN.out.2.2.symm) (by have := HN.out.2.2; omega)
  rw [← HN.out.2.2] at q1
  refine q1.mono ?_
  clear q1
  rintro e w7 ⟨g7, rfl, hg7, rg7, kk⟩
  have o7 : w6a.heap.size ≤ w7.heap.size := kk.size
  replace rgu := rgu.grown kk
  replace rgw := rgw.grown kk
  replace rgt := rgt.grown kk
  replace one := one.grown kk
  replace ones := ones.grown kk
  replace K := K.trans kk
  have tg7 := World.rowIs.lt rg7
  clear kk
  go_wp2_with fail
  have q1 := copied_ (some ⟨gw, 0, none⟩) M ys w7 (rgw.all HN.out.2.1.symm) (by have := HN.out.2.1; omega)
  rw [← HN.out.2.1] at q1
  refine q1.mono ?_
  clear q1
  rintro e w8 ⟨g8, rfl, hg8, rg8, kk⟩
  have o8 : w7.heap.size ≤ w8.heap.size := kk.size
  replace rgu := rgu.grown kk
  replace rgw := rgw.grown kk
  replace rgt := rgt.grown kk
  replace one := one.grown kk
  replace ones := ones.grown kk
  replace rg7 := rg7.grown kk
  replace K := K.trans kk
  have tg8 := World.rowIs.lt rg8
  clear kk
  go_wp2_with fail
  have q1 := HW.out (some ⟨g7, 0, none⟩) (some ⟨g8, 0, none⟩) N M ts ys w8 (rg7.all HN.out.2.2.symm) (rg8.all HN.out.2.1.symm) HP.out.2.2 HP.out.2.1 (by have := HN.out.2.2; omega) (by have := HN.out.2.1; omega) (by have := HN.out.2.2; omega) (by have := HN.out.2.1; omega)
  rw [← HR.out.2.1, ← HN.out.2.2, ← HN.out.2.1] at q1
  refine q1.mono ?_
  clear q1
  rintro e w9 ⟨twop, twoc, twoq, twod, rfl, two, kk⟩
  have o9 : w8.heap.size ≤ w9.heap.size := kk.size
  replace rgu := rgu.grown kk
  replace rgw := rgw.grown kk
  replace rgt := rgt.grown kk
  replace one := one.grown kk
  replace ones := ones.grown kk
  replace rg7 := rg7.grown kk
  replace rg8 := rg8.grown kk
  replace K := K.trans kk
  have twob := two.bd
  clear kk
  have kk : Kp w9 (w9.alloc (.cells #[.slice twop R2.l1.length twoc, .slice twoq R2.l2.length twod, .int .u64 R2.W, .int .i64 R2.Z, .bool R2.B, .int .i64 R2.E] 52)) := (Kp.refl _).alloc _
  have twos := Cs.born w9 52 R2 twop twoq twoc twod
  have o9a : (w9.alloc (.cells #[.slice twop R2.l1.length twoc, .slice twoq R2.l2.length twod, .int .u64 R2.W, .int .i64 R2.Z, .bool R2.B, .int .i64 R2.E] 52)).heap.size = w9.heap.size + 1 := by simp
  obtain ⟨w9a, hw9a⟩ : ∃ x, x = w9.alloc (.cells #[.slice twop R2.l1.length twoc, .slice twoq R2.l2.length twod, .int .u64 R2.W, .int .i64 R2.Z, .bool R2.B, .int .i64 R2.E] 52) := ⟨_, rfl⟩
  rw [← hw9a] at kk twos o9a
  have Hw9a : Hid (w9a = w9.alloc (.cells #[.slice twop R2.l1.length twoc, .slice twoq R2.l2.length twod, .int .u64 R2.W, .int .i64 R2.Z, .bool R2.B, .int .i64 R2.E] 52)) := hw9a
  clear hw9a
  replace rgu := rgu.grown kk
  replace rgw := rgw.grown kk
  replace rgt := rgt.grown kk
  replace one := one.grown kk
  replace ones := ones.grown kk
  replace rg7 := rg7.grown kk
  replace rg8 := rg8.grown kk
  replace two := two.grown kk
  replace K := K.trans kk
  clear kk
  clear rg7 rg8
  go_wp2_with fail
  rw [← Hw9a.out]
  clear Hw9a
  have q1 := roomy_ (some ⟨gu, 0, none⟩) N xs w9a (rgu.all HN.out.1.symm) (by have := HN.out.1; omega)
  rw [← HN.out.1] at q1
  refine q1.mono ?_
  clear q1
  rintro e w10 ⟨gx, rfl, hgx, rgx, kk⟩
  have o10 : w9a.heap.size ≤ w10.heap.size := kk.size
  replace rgu := rgu.grown kk
  replace rgw := rgw.grown kk
  replace rgt := rgt.grown kk
  replace one := one.grown kk
  replace ones := ones.grown kk
  replace two := two.grown kk
  replace twos := twos.grown kk
  replace K := K.trans kk
  have tgx := World.rowIs.lt rgx
  clear kk
  go_wp2_with fail
  have q1 := roomy_ (some ⟨gw, 0, none⟩) M ys w10 (rgw.all HN.out.2.1.symm) (by have := HN.out.2.1; omega)
  rw [← HN.out.2.1] at q1
  refine q1.mono ?_
  clear q1
  rintro e w11 ⟨gy, rfl, hgy, rgy, kk⟩
  have o11 : w10.heap.size ≤ w11.heap.size := kk.size
  replace rgu := rgu.grown kk
  replace rgw := rgw.grown kk
  replace rgt := rgt.grown kk
  replace one := one.grown kk
  replace ones := ones.grown kk
  replace two := two.grown kk
  replace twos := twos.grown kk
  replace rgx := rgx.grown kk
  replace K := K.trans kk
  have tgy := World.rowIs.lt rgy
  clear kk
  go_wp2_with fail
  have q1 := HA.out (some ⟨gx, 0, none⟩) (some ⟨gy, 0, none⟩) (N + 80) (M + 80) xs ys w11 (rgx.front (by have := HN.out.1; omega)) (rgy.front (by have := HN.out.2.1; omega)) HP.out.1 HP.out.2.1 (by have := HN.out.1; omega) (by have := HN.out.2.1; omega) (by have := HN.out.1; omega) (by have := HN.out.2.1; omega)
  rw [← HR.out.1, ← HN.out.1, ← HN.out.2.1] at q1
  refine q1.mono ?_
  clear q1
  rintro e w12 ⟨app, apc, apq, apd, rfl, ap, kk⟩
  have o12 : w11.heap.size ≤ w12.heap.size := kk.size
  replace rgu := rgu.grown kk
  replace rgw := rgw.grown kk
  replace rgt := rgt.grown kk
  replace one := one.grown kk
  replace ones := ones.grown kk
  replace two := two.grown kk
  replace twos := twos.grown kk
  replace rgx := rgx.grown kk
  replace rgy := rgy.grown kk
  replace K := K.trans kk
  have apb := ap.bd
  clear kk
  have kk : Kp w12 (w12.alloc (.cells #[.slice app R1.l1.length apc, .slice apq R1.l2.length apd, .int .u64 R1.W, .int .i64 R1.Z, .bool R1.B, .int .i64 R1.E] 52)) := (Kp.refl _).alloc _
  have aps := Cs.born w12 52 R1 app apq apc apd
  have o12a : (w12.alloc (.cells #[.slice app R1.l1.length apc, .slice apq R1.l2.length apd, .int .u64 R1.W, .int .i64 R1.Z, .bool R1.B, .int .i64 R1.E] 52)).heap.size = w12.heap.size + 1 := by simp
  obtain ⟨w12a, hw12a⟩ : ∃ x, x = w12.alloc (.cells #[.slice app R1.l1.length apc, .slice apq R1.l2.length apd, .int .u64 R1.W, .int .i64 R1.Z, .bool R1.B, .int .i64 R1.E] 52) := ⟨_, rfl⟩
  rw [← hw12a] at kk aps o12a
  have Hw12a : Hid (w12a = w12.alloc (.cells #[.slice app R1.l1.length apc, .slice apq R1.l2.length apd, .int .u64 R1.W, .int .i64 R1.Z, .bool R1.B, .int .i64 R1.E] 52)) := hw12a
  clear hw12a
  replace rgu := rgu.grown kk
  replace rgw := rgw.grown kk
  replace rgt := rgt.grown kk
  replace one := one.grown kk
  replace ones := ones.grown kk
  replace two := two.grown kk
  replace twos := twos.grown kk
  replace rgx := rgx.grown kk
  replace rgy := rgy.grown kk
  replace ap := ap.grown kk
  replace K := K.trans kk
  clear kk
  go_wp2_with fail
  rw [← Hw12a.out]
  clear Hw12a
  have q1 := HA.out (some ⟨gx, 0, none⟩) (some ⟨gy, 0, none⟩) (N + 80) (M + 80) xs ys w12a (rgx.front (by have := HN.out.1; omega)) (rgy.front (by have := HN.out.2.1; omega)) HP.out.1 HP.out.2.1 (by have := HN.out.1; omega) (by have := HN.out.2.1; omega) (by have := HN.out.1; omega) (by have := HN.out.2.1; omega)
  rw [← HR.out.1, ← HN.out.1, ← HN.out.2.1] at q1
  refine q1.mono ?_
  clear q1
  rintro e w13 ⟨aqp, aqc, aqq, aqd, rfl, aq, kk⟩
  have o13 : w12a.heap.size ≤ w13.heap.size := kk.size
  replace rgu := rgu.grown kk
  replace rgw := rgw.grown kk
  replace rgt := rgt.grown kk
  replace one := one.grown kk
  replace ones := ones.grown kk
  replace two := two.grown kk
  replace twos := twos.grown kk
  replace rgx := rgx.grown kk
  replace rgy := rgy.grown kk
  replace ap := ap.grown kk
  replace aps := aps.grown kk
  replace K := K.trans kk
  have aqb := aq.bd
  clear kk
  have kk : Kp w13 (w13.alloc (.cells #[.slice aqp R1.l1.length aqc, .slice aqq R1.l2.length aqd, .int .u64 R1.W, .int .i64 R1.Z, .bool R1.B, .int .i64 R1.E] 52)) := (Kp.refl _).alloc _
  have aqs := Cs.born w13 52 R1 aqp aqq aqc aqd
  have o13a : (w13.alloc (.cells #[.slice aqp R1.l1.length aqc, .slice aqq R1.l2.length aqd, .int .u64 R1.W, .int .i64 R1.Z, .bool R1.B, .int .i64 R1.E] 52)).heap.size = w13.heap.size + 1 := by simp
  obtain ⟨w13a, hw13a⟩ : ∃ x, x = w13.alloc (.cells #[.slice aqp R1.l1.length aqc, .slice aqq R1.l2.length aqd, .int .u64 R1.W, .int .i64 R1.Z, .bool R1.B, .int .i64 R1.E] 52) := ⟨_, rfl⟩
  rw [← hw13a] at kk aqs o13a
  have Hw13a : Hid (w13a = w13.alloc (.cells #[.slice aqp R1.l1.length aqc, .slice aqq R1.l2.length aqd, .int .u64 R1.W, .int .i64 R1.Z, .bool R1.B, .int .i64 R1.E] 52)) := hw13a
  clear hw13a
  replace rgu := rgu.grown kk
  replace rgw := rgw.grown kk
  replace rgt := rgt.grown kk
  replace one := one.grown kk
  replace ones := ones.grown kk
  replace two := two.grown kk
  replace twos := twos.grown kk
  replace rgx := rgx.grown kk
  replace rgy := rgy.grown kk
  replace ap := ap.grown kk
  replace aps := aps.grown kk
  replace aq := aq.grown kk
  replace K := K.trans kk
  clear kk
  have yap0 := aps.c0
  rw [Hw13a.out] at yap0
  have yap1 := aps.c1
  rw [Hw13a.out] at yap1
  have yap2 := aps.c2
  rw [Hw13a.out] at yap2
  have yap3 := aps.c3
  rw [Hw13a.out] at yap3
  have yap4 := aps.c4
  rw [Hw13a.out] at yap4
  have yap5 := aps.c5
  rw [Hw13a.out] at yap5
  have yone0 := ones.c0
  rw [Hw13a.out] at yone0
  have yone1 := ones.c1
  rw [Hw13a.out] at yone1
  have yone2 := ones.c2
  rw [Hw13a.out] at yone2
  have yone3 := ones.c3
  rw [Hw13a.out] at yone3
  have yone4 := ones.c4
  rw [Hw13a.out] at yone4
  have yone5 := ones.c5
  rw [Hw13a.out] at yone5
  go_wp2_with fail
  rw [← Hw13a.out]
  clear Hw13a
  have q1 := alike_ app onep apq oneq apc onec apd oned R1.l1 R1.l2 R1.W R1.Z R1.E R1.B w13a ap.o1.arr' one.o1.arr' ap.o2.arr' one.o2.arr' (by have := HB.out.1.1; omega) (by have := HB.out.1.2; omega)
  refine q1.mono ?_
  clear q1
  rintro e w14 ⟨rfl, kk⟩
  have o14 : w13a.heap.size ≤ w14.heap.size := kk.size
  replace rgu := rgu.grown kk
  replace rgw := rgw.grown kk
  replace rgt := rgt.grown kk
  replace one := one.grown kk
  replace ones := ones.grown kk
  replace two := two.grown kk
  replace twos := twos.grown kk
  replace rgx := rgx.grown kk
  replace rgy := rgy.grown kk
  replace ap := ap.grown kk
  replace aps := aps.grown kk
  replace aq := aq.grown kk
  replace aqs := aqs.grown kk
  replace K := K.trans kk
  clear yap0 yap1 yap2 yap3 yap4 yap5 yone0 yone1 yone2 yone3 yone4 yone5
  clear kk
  have yaq0 := aqs.c0
  have yaq1 := aqs.c1
  have yaq2 := aqs.c2
  have yaq3 := aqs.c3
  have yaq4 := aqs.c4
  have yaq5 := aqs.c5
  have yone0 := ones.c0
  have yone1 := ones.c1
  have yone2 := ones.c2
  have yone3 := ones.c3
  have yone4 := ones.c4
  have yone5 := ones.c5
  go_wp2_with fail
  have q1 := alike_ aqp onep aqq oneq aqc onec aqd oned R1.l1 R1.l2 R1.W R1.Z R1.E R1.B w14 aq.o1.arr' one.o1.arr' aq.o2.arr' one.o2.arr' (by have := HB.out.1.1; omega) (by have := HB.out.1.2; omega)
  refine q1.mono ?_
  clear q1
  rintro e w15 ⟨rfl, kk⟩
  have o15 : w14.heap.size ≤ w15.heap.size := kk.size
  replace rgu := rgu.grown kk
  replace rgw := rgw.grown kk
  replace rgt := rgt.grown kk
  replace one := one.grown kk
  replace ones := ones.grown kk
  replace two := two.grown kk
  replace twos := twos.grown kk
  replace rgx := rgx.grown kk
  replace rgy := rgy.grown kk
  replace ap := ap.grown kk
  replace aps := aps.grown kk
  replace aq := aq.grown kk
  replace aqs := aqs.grown kk
  replace K := K.trans kk
  clear yaq0 yaq1 yaq2 yaq3 yaq4 yaq5 yone0 yone1 yone2 yone3 yone4 yone5
  clear kk
  go_wp2_with fail
  have q1 := left_ (some ⟨gu, 0, none⟩) N gx xs w15 (rgu.all HN.out.1.symm) (by rw [← HN.out.1]; exact rgx) (by have := HN.out.1; omega)
  rw [← HN.out.1] at q1
  refine q1.mono ?_
  clear q1
  rintro e w16 ⟨rfl, kk⟩
  have o16 : w15.heap.size ≤ w16.heap.size := kk.size
  replace rgu := rgu.grown kk
  replace rgw := rgw.grown kk
  replace rgt := rgt.grown kk
  replace one := one.grown kk
  replace ones := ones.grown kk
  replace two := two.grown kk
  replace twos := twos.grown kk
  replace rgx := rgx.grown kk
  replace rgy := rgy.grown kk
  replace ap := ap.grown kk
  replace aps := aps.grown kk
  replace aq := aq.grown kk
  replace aqs := aqs.grown kk
  replace K := K.trans kk
  clear kk
  go_wp2_with fail
  have q1 := left_ (some ⟨gw, 0, none⟩) M gy ys w16 (rgw.all HN.out.2.1.symm) (by rw [← HN.out.2.1]; exact rgy) (by have := HN.out.2.1; omega)
  rw [← HN.out.2.1] at q1
  refine q1.mono ?_
  clear q1
  rintro e w17 ⟨rfl, kk⟩
  have o17 : w16.heap.size ≤ w17.heap.size := kk.size
  replace rgu := rgu.grown kk
  replace rgw := rgw.grown kk
  replace rgt := rgt.grown kk
  replace one := one.grown kk
  replace ones := ones.grown kk
  replace two := two.grown kk
  replace twos := twos.grown kk
  replace rgx := rgx.grown kk
  replace rgy := rgy.grown kk
  replace ap := ap.grown kk
  replace aps := aps.grown kk
  replace aq := aq.grown kk
  replace aqs := aqs.grown kk
  replace K := K.trans kk
  clear kk
  go_wp2_with fail
  have q1 := place_ gx (N + 80) gt N xs ts gds w17 rgx (by rw [← HN.out.1, ← HN.out.2.2]) (by rw [List.length_append, gds_len, ← HN.out.1]) (fun j hj => World.rowIs.cell rgt (by have := HN.out.2.2; omega)) (by omega) (by have := HN.out.1; omega)
  rw [← HN.out.1, ← HN.out.2.2] at q1
  refine q1.mono ?_
  clear q1
  rintro e w18 ⟨vv, rfl, rgx', kk⟩
  have o18 : w17.heap.size ≤ w18.heap.size := kk.2.2.2.1
  replace rgu := rgu.kb kk (by omega)
  replace rgw := rgw.kb kk (by omega)
  replace rgt := rgt.kb kk (by omega)
  replace one := one.kb kk oneb (by omega)
  replace ones := ones.kb kk (by omega)
  replace two := two.kb kk twob (by omega)
  replace twos := twos.kb kk (by omega)
  clear rgx
  have rgx := rgx'
  clear rgx'
  replace rgy := rgy.kb kk (by omega)
  replace ap := ap.kb kk apb (by omega)
  replace aps := aps.kb kk (by omega)
  replace aq := aq.kb kk aqb (by omega)
  replace aqs := aqs.kb kk (by omega)
  replace K := kk.kp K (by omega)
  clear kk
  go_wp2_with fail
  have q1 := HA.out (some ⟨gx, 0, none⟩) (some ⟨gy, 0, none⟩) (N + 80) (M + 80) ts ys w18 (rgx.front (by have := HN.out.2.2; omega)) (rgy.front (by have := HN.out.2.1; omega)) HP.out.2.2 HP.out.2.1 (by have := HN.out.2.2; omega) (by have := HN.out.2.1; omega) (by have := HN.out.2.2; omega) (by have := HN.out.2.1; omega)
  rw [← HR.out.2.1, ← HN.out.2.2, ← HN.out.2.1] at q1
  refine q1.mono ?_
  clear q1
  rintro e w19 ⟨arp, arc, arq, ard, rfl, ar, kk⟩
  have o19 : w18.heap.size ≤ w19.heap.size := kk.size
  replace rgu := rgu.grown kk
  replace rgw := rgw.grown kk
  replace rgt := rgt.grown kk
  replace one := one.grown kk
  replace ones := ones.grown kk
  replace two := two.grown kk
  replace twos := twos.grown kk
  replace rgx := rgx.grown kk
  replace rgy := rgy.grown kk
  replace ap := ap.grown kk
  replace aps := aps.grown kk
  replace aq := aq.grown kk
  replace aqs := aqs.grown kk
  replace K := K.trans kk
  have arb := ar.bd
  clear kk
  have kk : Kp w19 (w19.alloc (.cells #[.slice arp R2.l1.length arc, .slice arq R2.l2.length ard, .int .u64 R2.W, .int .i64 R2.Z, .bool R2.B, .int .i64 R2.E] 52)) := (Kp.refl _).alloc _
  have ars := Cs.born w19 52 R2 arp arq arc ard
  have o19a : (w19.alloc (.cells #[.slice arp R2.l1.length arc, .slice arq R2.l2.length ard, .int .u64 R2.W, .int .i64 R2.Z, .bool R2.B, .int .i64 R2.E] 52)).heap.size = w19.heap.size + 1 := by simp
  obtain ⟨w19a, hw19a⟩ : ∃ x, x = w19.alloc (.cells #[.slice arp R2.l1.length arc, .slice arq R2.l2.length ard, .int .u64 R2.W, .int .i64 R2.Z, .bool R2.B, .int .i64 R2.E] 52) := ⟨_, rfl⟩
  rw [← hw19a] at kk ars o19a
  have Hw19a : Hid (w19a = w19.alloc (.cells #[.slice arp R2.l1.length arc, .slice arq R2.l2.length ard, .int .u64 R2.W, .int .i64 R2.Z, .bool R2.B, .int .i64 R2.E] 52)) := hw19a
  clear hw19a
  replace rgu := rgu.grown kk
  replace rgw := rgw.grown kk
  replace rgt := rgt.grown kk
  replace one := one.grown kk
  replace ones := ones.grown kk
  replace two := two.grown kk
  replace twos := twos.grown kk
  replace rgx := rgx.grown kk
  replace rgy := rgy.grown kk
  replace ap := ap.grown kk
  replace aps := aps.grown kk
  replace aq := aq.grown kk
  replace aqs := aqs.grown kk
  replace ar := ar.grown kk
  replace K := K.trans kk
  clear kk
  have yar0 := ars.c0
  rw [Hw19a.out] at yar0
  have yar1 := ars.c1
  rw [Hw19a.out] at yar1
  have yar2 := ars.c2
  rw [Hw19a.out] at yar2
  have yar3 := ars.c3
  rw [Hw19a.out] at yar3
  have yar4 := ars.c4
  rw [Hw19a.out] at yar4
  have yar5 := ars.c5
  rw [Hw19a.out] at yar5
  have ytwo0 := twos.c0
  rw [Hw19a.out] at ytwo0
  have ytwo1 := twos.c1
  rw [Hw19a.out] at ytwo1
  have ytwo2 := twos.c2
  rw [Hw19a.out] at ytwo2
  have ytwo3 := twos.c3
  rw [Hw19a.out] at ytwo3
  have ytwo4 := twos.c4
  rw [Hw19a.out] at ytwo4
  have ytwo5 := twos.c5
  rw [Hw19a.out] at ytwo5
  go_wp2_with fail
  rw [← Hw19a.out]
  clear Hw19a
  have q1 := alike_ arp twop arq twoq arc twoc ard twod R2.l1 R2.l2 R2.W R2.Z R2.E R2.B w19a ar.o1.arr' two.o1.arr' ar.o2.arr' two.o2.arr' (by have := HB.out.2.1.1; omega) (by have := HB.out.2.1.2; omega)
  refine q1.mono ?_
  clear q1
  rintro e w20 ⟨rfl, kk⟩
  have o20 : w19a.heap.size ≤ w20.heap.size := kk.size
  replace rgu := rgu.grown kk
  replace rgw := rgw.grown kk
  replace rgt := rgt.grown kk
  replace one := one.grown kk
  replace ones := ones.grown kk
  replace two := two.grown kk
  replace twos := twos.grown kk
  replace rgx := rgx.grown kk
  replace rgy := rgy.grown kk
  replace ap := ap.grown kk
  replace aps := aps.grown kk
  replace aq := aq.grown kk
  replace aqs := aqs.grown kk
  replace ar := ar.grown kk
  replace ars := ars.grown kk
  replace K := K.trans kk
  clear yar0 yar1 yar2 yar3 yar4 yar5 ytwo0 ytwo1 ytwo2 ytwo3 ytwo4 ytwo5
  clear kk
  go_wp2_with fail
  have q1 := left_ (some ⟨gt, 0, none⟩) N gx ts w20 (rgt.all HN.out.2.2.symm) (by rw [← HN.out.2.2]; exact rgx) (by have := HN.out.2.2; omega)
  rw [← HN.out.2.2] at q1
  refine q1.mono ?_
  clear q1
  rintro e w21 ⟨rfl, kk⟩
  have o21 : w20.heap.size ≤ w21.heap.size := kk.size
  replace rgu := rgu.grown kk
  replace rgw := rgw.grown kk
  replace rgt := rgt.grown kk
  replace one := one.grown kk
  replace ones := ones.grown kk
  replace two := two.grown kk
  replace twos := twos.grown kk
  replace rgx := rgx.grown kk
  replace rgy := rgy.grown kk
  replace ap := ap.grown kk
  replace aps := aps.grown kk
  replace aq := aq.grown kk
  replace aqs := aqs.grown kk
  replace ar := ar.grown kk
  replace ars := ars.grown kk
  replace K := K.trans kk
  clear kk
  go_wp2_with fail
  have q1 := left_ (some ⟨gw, 0, none⟩) M gy ys w21 (rgw.all HN.out.2.1.symm) (by rw [← HN.out.2.1]; exact rgy) (by have := HN.out.2.1; omega)
  rw [← HN.out.2.1] at q1
  refine q1.mono ?_
  clear q1
  rintro e w22 ⟨rfl, kk⟩
  have o22 : w21.heap.size ≤ w22.heap.size := kk.size
  replace rgu := rgu.grown kk
  replace rgw := rgw.grown kk
  replace rgt := rgt.grown kk
  replace one := one.grown kk
  replace ones := ones.grown kk
  replace two := two.grown kk
  replace twos := twos.grown kk
  replace rgx := rgx.grown kk
  replace rgy := rgy.grown kk
  replace ap := ap.grown kk
  replace aps := aps.grown kk
  replace aq := aq.grown kk
  replace aqs := aqs.grown kk
  replace ar := ar.grown kk
  replace ars := ars.grown kk
  replace K := K.trans kk
  clear kk
  go_wp2_with fail
  have q1 := place_ gx (N + 80) gu N ts xs gds w22 rgx (by rw [← HN.out.2.2, ← HN.out.1]) (by rw [List.length_append, gds_len, ← HN.out.2.2]) (fun j hj => World.rowIs.cell rgu (by have := HN.out.1; omega)) (by omega) (by have := HN.out.2.2; omega)
  rw [← HN.out.2.2, ← HN.out.1] at q1
  refine q1.mono ?_
  clear q1
  rintro e w23 ⟨vv, rfl, rgx', kk⟩
  have o23 : w22.heap.size ≤ w23.heap.size := kk.2.2.2.1
  replace rgu := rgu.kb kk (by omega)
  replace rgw := rgw.kb kk (by omega)
  replace rgt := rgt.kb kk (by omega)
  replace one := one.kb kk oneb (by omega)
  replace ones := ones.kb kk (by omega)
  replace two := two.kb kk twob (by omega)
  replace twos := twos.kb kk (by omega)
  clear rgx
  have rgx := rgx'
  clear rgx'
  replace rgy := rgy.kb kk (by omega)
  replace ap := ap.kb kk apb (by omega)
  replace aps := aps.kb kk (by omega)
  replace aq := aq.kb kk aqb (by omega)
  replace aqs := aqs.kb kk (by omega)
  replace ar := ar.kb kk arb (by omega)
  replace ars := ars.kb kk (by omega)
  replace K := kk.kp K (by omega)
  clear kk
  go_wp2_with fail
  have q1 := HA.out (some ⟨gx, 0, none⟩) (some ⟨gy, 0, none⟩) (N + 80) (M + 80) xs ys w23 (rgx.front (by have := HN.out.1; omega)) (rgy.front (by have := HN.out.2.1; omega)) HP.out.1 HP.out.2.1 (by have := HN.out.1; omega) (by have := HN.out.2.1; omega) (by have := HN.out.1; omega) (by have := HN.out.2.1; omega)
  rw [← HR.out.1, ← HN.out.1, ← HN.out.2.1] at q1
  refine q1.mono ?_
  clear q1
  rintro e w24 ⟨avp, avc, avq, avd, rfl, av, kk⟩
  have o24 : w23.heap.size ≤ w24.heap.size := kk.size
  replace rgu := rgu.grown kk
  replace rgw := rgw.grown kk
  replace rgt := rgt.grown kk
  replace one := one.grown kk
  replace ones := ones.grown kk
  replace two := two.grown kk
  replace twos := twos.grown kk
  replace rgx := rgx.grown kk
  replace rgy := rgy.grown kk
  replace ap := ap.grown kk
  replace aps := aps.grown kk
  replace aq := aq.grown kk
  replace aqs := aqs.grown kk
  replace ar := ar.grown kk
  replace ars := ars.grown kk
  replace K := K.trans kk
  have avb := av.bd
  clear kk
  have kk : Kp w24 (w24.alloc (.cells #[.slice avp R1.l1.length avc, .slice avq R1.l2.length avd, .int .u64 R1.W, .int .i64 R1.Z, .bool R1.B, .int .i64 R1.E] 52)) := (Kp.refl _).alloc _
  have avs := Cs.born w24 52 R1 avp avq avc avd
  have o24a : (w24.alloc (.cells #[.slice avp R1.l1.length avc, .slice avq R1.l2.length avd, .int .u64 R1.W, .int .i64 R1.Z, .bool R1.B, .int .i64 R1.E] 52)).heap.size = w24.heap.size + 1 := by simp
  obtain ⟨w24a, hw24a⟩ : ∃ x, x = w24.alloc (.cells #[.slice avp R1.l1.length avc, .slice avq R1.l2.length avd, .int .u64 R1.W, .int .i64 R1.Z, .bool R1.B, .int .i64 R1.E] 52) := ⟨_, rfl⟩
  rw [← hw24a] at kk avs o24a
  have Hw24a : Hid (w24a = w24.alloc (.cells #[.slice avp R1.l1.length avc, .slice avq R1.l2.length avd, .int .u64 R1.W, .int .i64 R1.Z, .bool R1.B, .int .i64 R1.E] 52)) := hw24a
  clear hw24a
  replace rgu := rgu.grown kk
  replace rgw := rgw.grown kk
  replace rgt := rgt.grown kk
  replace one := one.grown kk
  replace ones := ones.grown kk
  replace two := two.grown kk
  replace twos := twos.grown kk
  replace rgx := rgx.grown kk
  replace rgy := rgy.grown kk
  replace ap := ap.grown kk
  replace aps := aps.grown kk
  replace aq := aq.grown kk
  replace aqs := aqs.grown kk
  replace ar := ar.grown kk
  replace ars := ars.grown kk
  replace av := av.grown kk
  replace K := K.trans kk
  clear kk
  have yav0 := avs.c0
  rw [Hw24a.out] at yav0
  have yav1 := avs.c1
  rw [Hw24a.out] at yav1
  have yav2 := avs.c2
  rw [Hw24a.out] at yav2
  have yav3 := avs.c3
  rw [Hw24a.out] at yav3
  have yav4 := avs.c4
  rw [Hw24a.out] at yav4
  have yav5 := avs.c5
  rw [Hw24a.out] at yav5
  have yone0 := ones.c0
  rw [Hw24a.out] at yone0
  have yone1 := ones.c1
  rw [Hw24a.out] at yone1
  have yone2 := ones.c2
  rw [Hw24a.out] at yone2
  have yone3 := ones.c3
  rw [Hw24a.out] at yone3
  have yone4 := ones.c4
  rw [Hw24a.out] at yone4
  have yone5 := ones.c5
  rw [Hw24a.out] at yone5
  go_wp2_with fail
  rw [← Hw24a.out]
  clear Hw24a
  have q1 := alike_ avp onep avq oneq avc onec avd oned R1.l1 R1.l2 R1.W R1.Z R1.E R1.B w24a av.o1.arr' one.o1.arr' av.o2.arr' one.o2.arr' (by have := HB.out.1.1; omega) (by have := HB.out.1.2; omega)
  refine q1.mono ?_
  clear q1
  rintro e w25 ⟨rfl, kk⟩
  have o25 : w24a.heap.size ≤ w25.heap.size := kk.size
  replace rgu := rgu.grown kk
  replace rgw := rgw.grown kk
  replace rgt := rgt.grown kk
  replace one := one.grown kk
  replace ones := ones.grown kk
  replace two := two.grown kk
  replace twos := twos.grown kk
  replace rgx := rgx.grown kk
  replace rgy := rgy.grown kk
  replace ap := ap.grown kk
  replace aps := aps.grown kk
  replace aq := aq.grown kk
  replace aqs := aqs.grown kk
  replace ar := ar.grown kk
  replace ars := ars.grown kk
  replace av := av.grown kk
  replace avs := avs.grown kk
  replace K := K.trans kk
  clear yav0 yav1 yav2 yav3 yav4 yav5 yone0 yone1 yone2 yone3 yone4 yone5
  clear kk
  have yap0 := aps.c0
  have yap1 := aps.c1
  have yap2 := aps.c2
  have yap3 := aps.c3
  have yap4 := aps.c4
  have yap5 := aps.c5
  have yone0 := ones.c0
  have yone1 := ones.c1
  have yone2 := ones.c2
  have yone3 := ones.c3
  have yone4 := ones.c4
  have yone5 := ones.c5
  go_wp2_with fail
  have q1 := alike_ app onep apq oneq apc onec apd oned R1.l1 R1.l2 R1.W R1.Z R1.E R1.B w25 ap.o1.arr' one.o1.arr' ap.o2.arr' one.o2.arr' (by have := HB.out.1.1; omega) (by have := HB.out.1.2; omega)
  refine q1.mono ?_
  clear q1
  rintro e w26 ⟨rfl, kk⟩
  have o26 : w25.heap.size ≤ w26.heap.size := kk.size
  replace rgu := rgu.grown kk
  replace rgw := rgw.grown kk
  replace rgt := rgt.grown kk
  replace one := one.grown kk
  replace ones := ones.grown kk
  replace two := two.grown kk
  replace twos := twos.grown kk
  replace rgx := rgx.grown kk
  replace rgy := rgy.grown kk
  replace ap := ap.grown kk
  replace aps := aps.grown kk
  replace aq := aq.grown kk
  replace aqs := aqs.grown kk
  replace ar := ar.grown kk
  replace ars := ars.grown kk
  replace av := av.grown kk
  replace avs := avs.grown kk
  replace K := K.trans kk
  clear yap0 yap1 yap2 yap3 yap4 yap5 yone0 yone1 yone2 yone3 yone4 yone5
  clear kk
  have yaq0 := aqs.c0
  have yaq1 := aqs.c1
  have yaq2 := aqs.c2
  have yaq3 := aqs.c3
  have yaq4 := aqs.c4
  have yaq5 := aqs.c5
  have yone0 := ones.c0
  have yone1 := ones.c1
  have yone2 := ones.c2
  have yone3 := ones.c3
  have yone4 := ones.c4
  have yone5 := ones.c5
  go_wp2_with fail
  have q1 := alike_ aqp onep aqq oneq aqc onec aqd oned R1.l1 R1.l2 R1.W R1.Z R1.E R1.B w26 aq.o1.arr' one.o1.arr' aq.o2.arr' one.o2.arr' (by have := HB.out.1.1; omega) (by have := HB.out.1.2; omega)
  refine q1.mono ?_
  clear q1
  rintro e w27 ⟨rfl, kk⟩
  have o27 : w26.heap.size ≤ w27.heap.size := kk.size
  replace rgu := rgu.grown kk
  replace rgw := rgw.grown kk
  replace rgt := rgt.grown kk
  replace one := one.grown kk
  replace ones := ones.grown kk
  replace two := two.grown kk
  replace twos := twos.grown kk
  replace rgx := rgx.grown kk
  replace rgy := rgy.grown kk
  replace ap := ap.grown kk
  replace aps := aps.grown kk
  replace aq := aq.grown kk
  replace aqs := aqs.grown kk
  replace ar := ar.grown kk
  replace ars := ars.grown kk
  replace av := av.grown kk
  replace avs := avs.grown kk
  replace K := K.trans kk
  clear yaq0 yaq1 yaq2 yaq3 yaq4 yaq5 yone0 yone1 yone2 yone3 yone4 yone5
  clear kk
  have yar0 := ars.c0
  have yar1 := ars.c1
  have yar2 := ars.c2
  have yar3 := ars.c3
  have yar4 := ars.c4
  have yar5 := ars.c5
  have ytwo0 := twos.c0
  have ytwo1 := twos.c1
  have ytwo2 := twos.c2
  have ytwo3 := twos.c3
  have ytwo4 := twos.c4
  have ytwo5 := twos.c5
  go_wp2_with fail
  have q1 := alike_ arp twop arq twoq arc twoc ard twod R2.l1 R2.l2 R2.W R2.Z R2.E R2.B w27 ar.o1.arr' two.o1.arr' ar.o2.arr' two.o2.arr' (by have := HB.out.2.1.1; omega) (by have := HB.out.2.1.2; omega)
  refine q1.mono ?_
  clear q1
  rintro e w28 ⟨rfl, kk⟩
  have o28 : w27.heap.size ≤ w28.heap.size := kk.size
  replace rgu := rgu.grown kk
  replace rgw := rgw.grown kk
  replace rgt := rgt.grown kk
  replace one := one.grown kk
  replace ones := ones.grown kk
  replace two := two.grown kk
  replace twos := twos.grown kk
  replace rgx := rgx.grown kk
  replace rgy := rgy.grown kk
  replace ap := ap.grown kk
  replace aps := aps.grown kk
  replace aq := aq.grown kk
  replace aqs := aqs.grown kk
  replace ar := ar.grown kk
  replace ars := ars.grown kk
  replace av := av.grown kk
  replace avs := avs.grown kk
  replace K := K.trans kk
  clear yar0 yar1 yar2 yar3 yar4 yar5 ytwo0 ytwo1 ytwo2 ytwo3 ytwo4 ytwo5
  clear kk
  go_wp2_with fail
  have q1 := HA.out (some ⟨gx, 0, none⟩) (some ⟨gx, 0, none⟩) (N + 80) (N + 80) xs xs w28 (rgx.front (by have := HN.out.1; omega)) (rgx.front (by have := HN.out.1; omega)) HP.out.1 HP.out.1 (by have := HN.out.1; omega) (by have := HN.out.1; omega) (by have := HN.out.1; omega) (by have := HN.out.1; omega)
  rw [← HR.out.2.2, ← HN.out.1] at q1
  refine q1.mono ?_
  clear q1
  rintro e w29 ⟨azp, azc, azq, azd, rfl, az, kk⟩
  have o29 : w28.heap.size ≤ w29.heap.size := kk.size
  replace rgu := rgu.grown kk
  replace rgw := rgw.grown kk
  replace rgt := rgt.grown kk
  replace one := one.grown kk
  replace ones := ones.grown kk
  replace two := two.grown kk
  replace twos := twos.grown kk
  replace rgx := rgx.grown kk
  replace rgy := rgy.grown kk
  replace ap := ap.grown kk
  replace aps := aps.grown kk
  replace aq := aq.grown kk
  replace aqs := aqs.grown kk
  replace ar := ar.grown kk
  replace ars := ars.grown kk
  replace av := av.grown kk
  replace avs := avs.grown kk
  replace K := K.trans kk
  have azb := az.bd
  clear kk
  have kk : Kp w29 (w29.alloc (.cells #[.slice azp R3.l1.length azc, .slice azq R3.l2.length azd, .int .u64 R3.W, .int .i64 R3.Z, .bool R3.B, .int .i64 R3.E] 52)) := (Kp.refl _).alloc _
  have azs := Cs.born w29 52 R3 azp azq azc azd
  have o29a : (w29.alloc (.cells #[.slice azp R3.l1.length azc, .slice azq R3.l2.length azd, .int .u64 R3.W, .int .i64 R3.Z, .bool R3.B, .int .i64 R3.E] 52)).heap.size = w29.heap.size + 1 := by simp
  obtain ⟨w29a, hw29a⟩ : ∃ x, x = w29.alloc (.cells #[.slice azp R3.l1.length azc, .slice azq R3.l2.length azd, .int .u64 R3.W, .int .i64 R3.Z, .bool R3.B, .int .i64 R3.E] 52) := ⟨_, rfl⟩
  rw [← hw29a] at kk azs o29a
  have Hw29a : Hid (w29a = w29.alloc (.cells #[.slice azp R3.l1.length azc, .slice azq R3.l2.length azd, .int .u64 R3.W, .int .i64 R3.Z, .bool R3.B, .int .i64 R3.E] 52)) := hw29a
  clear hw29a
  replace rgu := rgu.grown kk
  replace rgw := rgw.grown kk
  replace rgt := rgt.grown kk
  replace one := one.grown kk
  replace ones := ones.grown kk
  replace two := two.grown kk
  replace twos := twos.grown kk
  replace rgx := rgx.grown kk
  replace rgy := rgy.grown kk
  replace ap := ap.grown kk
  replace aps := aps.grown kk
  replace aq := aq.grown kk
  replace aqs := aqs.grown kk
  replace ar := ar.grown kk
  replace ars := ars.grown kk
  replace av := av.grown kk
  replace avs := avs.grown kk
  replace az := az.grown kk
  replace K := K.trans kk
  clear kk
  go_wp2_with fail
  rw [← Hw29a.out]
  clear Hw29a
  have HCO : Hid (∀ W, Kp w29a W → Calls Tryd.prog 25 #[.slice (some ⟨gu, 0, none⟩) N N] W fun e W' => ∃ g, e = .returned (.slice (some ⟨g, 0, none⟩) N N) ∧ Rw W' g N xs ∧ Kp W W' ∧ Kp w29a W') := by
    show ∀ W, Kp w29a W → Calls Tryd.prog 25 #[.slice (some ⟨gu, 0, none⟩) N N] W fun e W' => ∃ g, e = .returned (.slice (some ⟨g, 0, none⟩) N N) ∧ Rw W' g N xs ∧ Kp W W' ∧ Kp w29a W'
    intro W kw
    have q := copied_ (some ⟨gu, 0, none⟩) N xs W ((rgu.grown kw).all HN.out.1.symm) (by have := HN.out.1; omega)
    rw [← HN.out.1] at q
    exact q.mono (fun e W' ⟨g, h1, h2, h3, h4⟩ => ⟨g, h1, h3, h4, kw.trans h4⟩)
  have HWZ : Hid (∀ g g' W, Rw W g N xs → Rw W g' N xs → Kp w29a W → Calls Tryd.prog 28 #[.int .i64 k, .slice (some ⟨g, 0, none⟩) N N, .slice (some ⟨g', 0, none⟩) N N, .int .u64 v, .int .i64 n] W fun e W' => ∃ p1 c1 p2 c2, e = .returned (.agg #[.slice p1 R3.l1.length c1, .slice p2 R3.l2.length c2, .int .u64 R3.W, .int .i64 R3.Z, .bool R3.B, .int .i64 R3.E]) ∧ Arr W' p1 R3.l1 ∧ Arr W' p2 R3.l2 ∧ Kp w29a W') := by
    show ∀ g g' W, Rw W g N xs → Rw W g' N xs → Kp w29a W → Calls Tryd.prog 28 #[.int .i64 k, .slice (some ⟨g, 0, none⟩) N N, .slice (some ⟨g', 0, none⟩) N N, .int .u64 v, .int .i64 n] W fun e W' => ∃ p1 c1 p2 c2, e = .returned (.agg #[.slice p1 R3.l1.length c1, .slice p2 R3.l2.length c2, .int .u64 R3.W, .int .i64 R3.Z, .bool R3.B, .int .i64 R3.E]) ∧ Arr W' p1 R3.l1 ∧ Arr W' p2 R3.l2 ∧ Kp w29a W'
    intro g g' W r1 r2 kw
    have q := HW.out (some ⟨g, 0, none⟩) (some ⟨g', 0, none⟩) N N xs xs W (r1.all HN.out.1.symm) (r2.all HN.out.1.symm) HP.out.1 HP.out.1 (by have := HN.out.1; omega) (by have := HN.out.1; omega) (by have := HN.out.1; omega) (by have := HN.out.1; omega)
    rw [← HR.out.2.2, ← HN.out.1] at q
    exact q.mono (fun e W' ⟨p1, c1, p2, c2, h1, h2, h3⟩ => ⟨p1, c1, p2, c2, h1, h2.o1.arr', h2.o2.arr', kw.trans h3⟩)
  have HAL : Hid (∀ p1 c1 p2 c2 W, Arr W p1 R3.l1 → Arr W p2 R3.l2 → Kp w29a W → Calls Tryd.prog 29 #[.agg #[.slice azp R3.l1.length azc, .slice azq R3.l2.length azd, .int .u64 R3.W, .int .i64 R3.Z, .bool R3.B, .int .i64 R3.E], .agg #[.slice p1 R3.l1.length c1, .slice p2 R3.l2.length c2, .int .u64 R3.W, .int .i64 R3.Z, .bool R3.B, .int .i64 R3.E]] W fun e W' => e = .returned (.bool true) ∧ Kp w29a W') := by
    show ∀ p1 c1 p2 c2 W, Arr W p1 R3.l1 → Arr W p2 R3.l2 → Kp w29a W → Calls Tryd.prog 29 #[.agg #[.slice azp R3.l1.length azc, .slice azq R3.l2.length azd, .int .u64 R3.W, .int .i64 R3.Z, .bool R3.B, .int .i64 R3.E], .agg #[.slice p1 R3.l1.length c1, .slice p2 R3.l2.length c2, .int .u64 R3.W, .int .i64 R3.Z, .bool R3.B, .int .i64 R3.E]] W fun e W' => e = .returned (.bool true) ∧ Kp w29a W'
    intro p1 c1 p2 c2 W a1 a2 kw
    exact (alike_ azp p1 azq p2 azc c1 azd c2 R3.l1 R3.l2 R3.W R3.Z R3.E R3.B W (az.o1.arr'.grown kw) a1 (az.o2.arr'.grown kw) a2 (by have := HB.out.2.2.1; omega) (by have := HB.out.2.2.2; omega)).mono (fun e W' ⟨h1, h2⟩ => ⟨h1, kw.trans h2⟩)
  have HLE : Hid (∀ W, Kp w29a W → Calls Tryd.prog 44 #[.slice (some ⟨gu, 0, none⟩) N N, .slice (some ⟨gx, 0, none⟩) (N + 80) (N + 80)] W fun e W' => e = .returned (.bool true) ∧ Kp w29a W') := by
    show ∀ W, Kp w29a W → Calls Tryd.prog 44 #[.slice (some ⟨gu, 0, none⟩) N N, .slice (some ⟨gx, 0, none⟩) (N + 80) (N + 80)] W fun e W' => e = .returned (.bool true) ∧ Kp w29a W'
    intro W kw
    have q := left_ (some ⟨gu, 0, none⟩) N gx xs W ((rgu.grown kw).all HN.out.1.symm) (by rw [← HN.out.1]; exact rgx.grown kw) (by have := HN.out.1; omega)
    rw [← HN.out.1] at q
    exact q.mono (fun e W' ⟨h1, h2⟩ => ⟨h1, kw.trans h2⟩)
  have k0 : Kp w29a w29a.drew := (Kp.refl _).drew
  go_region_held3 (fun w' => w'.cell? ⟨w29.heap.size, 0, none⟩ = some (.slice azp R3.l1.length azc) ∧ w'.cell? ⟨w29.heap.size, 1, none⟩ = some (.slice azq R3.l2.length azd) ∧ w'.cell? ⟨w29.heap.size, 2, none⟩ = some (.int .u64 R3.W) ∧ w'.cell? ⟨w29.heap.size, 3, none⟩ = some (.int .i64 R3.Z) ∧ w'.cell? ⟨w29.heap.size, 4, none⟩ = some (.bool R3.B) ∧ w'.cell? ⟨w29.heap.size, 5, none⟩ = some (.int .i64 R3.E)) (first | exact (azs.grown k5).six | exact (azs.grown k4).six | exact (azs.grown k3).six | exact (azs.grown k2).six | exact (azs.grown k1).six | exact (azs.grown k0).six) (first | (go_at_call 25; refine (HCO.out _ k1).mono ?_; rintro e v2 ⟨g2, rfl, r2, k12, k2⟩; have r1' := r1.grown k12) | (go_at_call 25; refine (HCO.out _ k0).mono ?_; rintro e v1 ⟨g1, rfl, r1, k01, k1⟩) | (go_at_call 28; refine (HWZ.out g1 g2 _ r1' r2 k2).mono ?_; rintro e v3 ⟨zp, zc, zq, zd, rfl, za, zb, k3⟩) | (go_at_call 29; refine (HAL.out zp zc zq zd _ za zb k3).mono ?_; rintro e v4 ⟨rfl, k4⟩) | (go_at_call 44; refine (HLE.out _ k4).mono ?_; rintro e v5 ⟨rfl, k5⟩))
  have o29z : w29a.heap.size ≤ v5.heap.size := k5.size
  replace rgu := rgu.grown k5
  replace rgw := rgw.grown k5
  replace rgt := rgt.grown k5
  replace one := one.grown k5
  replace ones := ones.grown k5
  replace two := two.grown k5
  replace twos := twos.grown k5
  replace rgx := rgx.grown k5
  replace rgy := rgy.grown k5
  replace ap := ap.grown k5
  replace aps := aps.grown k5
  replace aq := aq.grown k5
  replace aqs := aqs.grown k5
  replace ar := ar.grown k5
  replace ars := ars.grown k5
  replace av := av.grown k5
  replace avs := avs.grown k5
  replace az := az.grown k5
  replace azs := azs.grown k5
  replace K := K.trans k5
  clear k0 k1 k2 k3 k4 k5 k12 k01 r1 r1' r2 za zb HCO HWZ HAL HLE HA HW HR HO one two ones twos
  have hLs : Lists (v5.alloc (.cells #[.slice app R1.l1.length apc, .slice aqp R1.l1.length aqc, .slice arp R2.l1.length arc, .slice avp R1.l1.length avc, .slice azp R3.l1.length azc, .slice apq R1.l2.length apd, .slice aqq R1.l2.length aqd, .slice arq R2.l2.length ard, .slice avq R1.l2.length avd, .slice azq R3.l2.length azd] 26)) v5.heap.size 10 (ePs [(app, R1.l1.length, apc), (aqp, R1.l1.length, aqc), (arp, R2.l1.length, arc), (avp, R1.l1.length, avc), (azp, R3.l1.length, azc), (apq, R1.l2.length, apd), (aqq, R1.l2.length, aqd), (arq, R2.l2.length, ard), (avq, R1.l2.length, avd), (azq, R3.l2.length, azd)]) (eNs [(app, R1.l1.length, apc), (aqp, R1.l1.length, aqc), (arp, R2.l1.length, arc), (avp, R1.l1.length, avc), (azp, R3.l1.length, azc), (apq, R1.l2.length, apd), (aqq, R1.l2.length, aqd), (arq, R2.l2.length, ard), (avq, R1.l2.length, avd), (azq, R3.l2.length, azd)]) (eCs [(app, R1.l1.length, apc), (aqp, R1.l1.length, aqc), (arp, R2.l1.length, arc), (avp, R1.l1.length, avc), (azp, R3.l1.length, azc), (apq, R1.l2.length, apd), (aqq, R1.l2.length, aqd), (arq, R2.l2.length, ard), (avq, R1.l2.length, avd), (azq, R3.l2.length, azd)]) := by
    refine Lists.of [(app, R1.l1.length, apc), (aqp, R1.l1.length, aqc), (arp, R2.l1.length, arc), (avp, R1.l1.length, avc), (azp, R3.l1.length, azc), (apq, R1.l2.length, apd), (aqq, R1.l2.length, aqd), (arq, R2.l2.length, ard), (avq, R1.l2.length, avd), (azq, R3.l2.length, azd)] ?_ ?_ ?_ (by simp)
    · intro e he
      simp only [List.mem_cons, List.not_mem_nil, or_false] at he
      rcases he with rfl | rfl | rfl | rfl | rfl | rfl | rfl | rfl | rfl | rfl
      · exact ⟨_, _, ap.o1⟩
      · exact ⟨_, _, aq.o1⟩
      · exact ⟨_, _, ar.o1⟩
      · exact ⟨_, _, av.o1⟩
      · exact ⟨_, _, az.o1⟩
      · exact ⟨_, _, ap.o2⟩
      · exact ⟨_, _, aq.o2⟩
      · exact ⟨_, _, ar.o2⟩
      · exact ⟨_, _, av.o2⟩
      · exact ⟨_, _, az.o2⟩
    · refine List.Pairwise.cons ?_ (List.Pairwise.cons ?_ (List.Pairwise.cons ?_ (List.Pairwise.cons ?_ (List.Pairwise.cons ?_ (List.Pairwise.cons ?_ (List.Pairwise.cons ?_ (List.Pairwise.cons ?_ (List.Pairwise.cons ?_ (List.Pairwise.cons ?_ (List.Pairwise.nil))))))))))
      · intro e he g hg hg2
        simp only [List.mem_cons, List.not_mem_nil, or_false] at he
        rcases he with rfl | rfl | rfl | rfl | rfl | rfl | rfl | rfl | rfl
        · have b1 := apb g (Or.inl hg)
          have b2 := aqb g (Or.inl hg2)
          omega
        · have b1 := apb g (Or.inl hg)
          have b2 := arb g (Or.inl hg2)
          omega
        · have b1 := apb g (Or.inl hg)
          have b2 := avb g (Or.inl hg2)
          omega
        · have b1 := apb g (Or.inl hg)
          have b2 := azb g (Or.inl hg2)
          omega
        · exact ap.ne g hg hg2
        · have b1 := apb g (Or.inl hg)
          have b2 := aqb g (Or.inr hg2)
          omega
        · have b1 := apb g (Or.inl hg)
          have b2 := arb g (Or.inr hg2)
          omega
        · have b1 := apb g (Or.inl hg)
          have b2 := avb g (Or.inr hg2)
          omega
        · have b1 := apb g (Or.inl hg)
          have b2 := azb g (Or.inr hg2)
          omega
      · intro e he g hg hg2
        simp only [List.mem_cons, List.not_mem_nil, or_false] at he
        rcases he with rfl | rfl | rfl | rfl | rfl | rfl | rfl | rfl
        · have b1 := aqb g (Or.inl hg)
          have b2 := arb g (Or.inl hg2)
          omega
        · have b1 := aqb g (Or.inl hg)
          have b2 := avb g (Or.inl hg2)
          omega
        · have b1 := aqb g (Or.inl hg)
          have b2 := azb g (Or.inl hg2)
          omega
        · have b1 := aqb g (Or.inl hg)
          have b2 := apb g (Or.inr hg2)
          omega
        · exact aq.ne g hg hg2
        · have b1 := aqb g (Or.inl hg)
          have b2 := arb g (Or.inr hg2)
          omega
        · have b1 := aqb g (Or.inl hg)
          have b2 := avb g (Or.inr hg2)
          omega
        · have b1 := aqb g (Or.inl hg)
          have b2 := azb g (Or.inr hg2)
          omega
      · intro e he g hg hg2
        simp only [List.mem_cons, List.not_mem_nil, or_false] at he
        rcases he with rfl | rfl | rfl | rfl | rfl | rfl | rfl
        · have b1 := arb g (Or.inl hg)
          have b2 := avb g (Or.inl hg2)
          omega
        · have b1 := arb g (Or.inl hg)
          have b2 := azb g (Or.inl hg2)
          omega
        · have b1 := arb g (Or.inl hg)
          have b2 := apb g (Or.inr hg2)
          omega
        · have b1 := arb g (Or.inl hg)
          have b2 := aqb g (Or.inr hg2)
          omega
        · exact ar.ne g hg hg2
        · have b1 := arb g (Or.inl hg)
          have b2 := avb g (Or.inr hg2)
          omega
        · have b1 := arb g (Or.inl hg)
          have b2 := azb g (Or.inr hg2)
          omega
      · intro e he g hg hg2
        simp only [List.mem_cons, List.not_mem_nil, or_false] at he
        rcases he with rfl | rfl | rfl | rfl | rfl | rfl
        · have b1 := avb g (Or.inl hg)
          have b2 := azb g (Or.inl hg2)
          omega
        · have b1 := avb g (Or.inl hg)
          have b2 := apb g (Or.inr hg2)
          omega
        · have b1 := avb g (Or.inl hg)
          have b2 := aqb g (Or.inr hg2)
          omega
        · have b1 := avb g (Or.inl hg)
          have b2 := arb g (Or.inr hg2)
          omega
        · exact av.ne g hg hg2
        · have b1 := avb g (Or.inl hg)
          have b2 := azb g (Or.inr hg2)
          omega
      · intro e he g hg hg2
        simp only [List.mem_cons, List.not_mem_nil, or_false] at he
        rcases he with rfl | rfl | rfl | rfl | rfl
        · have b1 := azb g (Or.inl hg)
          have b2 := apb g (Or.inr hg2)
          omega
        · have b1 := azb g (Or.inl hg)
          have b2 := aqb g (Or.inr hg2)
          omega
        · have b1 := azb g (Or.inl hg)
          have b2 := arb g (Or.inr hg2)
          omega
        · have b1 := azb g (Or.inl hg)
          have b2 := avb g (Or.inr hg2)
          omega
        · exact az.ne g hg hg2
      · intro e he g hg hg2
        simp only [List.mem_cons, List.not_mem_nil, or_false] at he
        rcases he with rfl | rfl | rfl | rfl
        · have b1 := apb g (Or.inr hg)
          have b2 := aqb g (Or.inr hg2)
          omega
        · have b1 := apb g (Or.inr hg)
          have b2 := arb g (Or.inr hg2)
          omega
        · have b1 := apb g (Or.inr hg)
          have b2 := avb g (Or.inr hg2)
          omega
        · have b1 := apb g (Or.inr hg)
          have b2 := azb g (Or.inr hg2)
          omega
      · intro e he g hg hg2
        simp only [List.mem_cons, List.not_mem_nil, or_false] at he
        rcases he with rfl | rfl | rfl
        · have b1 := aqb g (Or.inr hg)
          have b2 := arb g (Or.inr hg2)
          omega
        · have b1 := aqb g (Or.inr hg)
          have b2 := avb g (Or.inr hg2)
          omega
        · have b1 := aqb g (Or.inr hg)
          have b2 := azb g (Or.inr hg2)
          omega
      · intro e he g hg hg2
        simp only [List.mem_cons, List.not_mem_nil, or_false] at he
        rcases he with rfl | rfl
        · have b1 := arb g (Or.inr hg)
          have b2 := avb g (Or.inr hg2)
          omega
        · have b1 := arb g (Or.inr hg)
          have b2 := azb g (Or.inr hg2)
          omega
      · intro e he g hg hg2
        simp only [List.mem_cons, List.not_mem_nil, or_false] at he
        subst he
        · have b1 := avb g (Or.inr hg)
          have b2 := azb g (Or.inr hg2)
          omega
      · intro e he; cases he
    · intro e he
      simp only [List.mem_cons, List.not_mem_nil, or_false] at he
      rcases he with rfl | rfl | rfl | rfl | rfl | rfl | rfl | rfl | rfl | rfl
      · exact HB.out.1.1
      · exact HB.out.1.1
      · exact HB.out.2.1.1
      · exact HB.out.1.1
      · exact HB.out.2.2.1
      · exact HB.out.1.2
      · exact HB.out.1.2
      · exact HB.out.2.1.2
      · exact HB.out.1.2
      · exact HB.out.2.2.2
  have hX : ∀ g, Lists.X 10 (ePs [(app, R1.l1.length, apc), (aqp, R1.l1.length, aqc), (arp, R2.l1.length, arc), (avp, R1.l1.length, avc), (azp, R3.l1.length, azc), (apq, R1.l2.length, apd), (aqq, R1.l2.length, aqd), (arq, R2.l2.length, ard), (avq, R1.l2.length, avd), (azq, R3.l2.length, azd)]) g → w11.heap.size ≤ g := fun g hx => X_of (es := [(app, R1.l1.length, apc), (aqp, R1.l1.length, aqc), (arp, R2.l1.length, arc), (avp, R1.l1.length, avc), (azp, R3.l1.length, azc), (apq, R1.l2.length, apd), (aqq, R1.l2.length, aqd), (arq, R2.l2.length, ard), (avq, R1.l2.length, avd), (azq, R3.l2.length, azd)]) (T := 10) rfl (by
    intro e he g hg
    simp only [List.mem_cons, List.not_mem_nil, or_false] at he
    rcases he with rfl | rfl | rfl | rfl | rfl | rfl | rfl | rfl | rfl | rfl
    · have b1 := apb g (Or.inl hg)
      omega
    · have b1 := aqb g (Or.inl hg)
      omega
    · have b1 := arb g (Or.inl hg)
      omega
    · have b1 := avb g (Or.inl hg)
      omega
    · have b1 := azb g (Or.inl hg)
      omega
    · have b1 := apb g (Or.inr hg)
      omega
    · have b1 := aqb g (Or.inr hg)
      omega
    · have b1 := arb g (Or.inr hg)
      omega
    · have b1 := avb g (Or.inr hg)
      omega
    · have b1 := azb g (Or.inr hg)
      omega
    ) hx
  have q1 := apart_ v5.heap.size 10 (ePs [(app, R1.l1.length, apc), (aqp, R1.l1.length, aqc), (arp, R2.l1.length, arc), (avp, R1.l1.length, avc), (azp, R3.l1.length, azc), (apq, R1.l2.length, apd), (aqq, R1.l2.length, aqd), (arq, R2.l2.length, ard), (avq, R1.l2.length, avd), (azq, R3.l2.length, azd)]) (eNs [(app, R1.l1.length, apc), (aqp, R1.l1.length, aqc), (arp, R2.l1.length, arc), (avp, R1.l1.length, avc), (azp, R3.l1.length, azc), (apq, R1.l2.length, apd), (aqq, R1.l2.length, aqd), (arq, R2.l2.length, ard), (avq, R1.l2.length, avd), (azq, R3.l2.length, azd)]) (eCs [(app, R1.l1.length, apc), (aqp, R1.l1.length, aqc), (arp, R2.l1.length, arc), (avp, R1.l1.length, avc), (azp, R3.l1.length, azc), (apq, R1.l2.length, apd), (aqq, R1.l2.length, aqd), (arq, R2.l2.length, ard), (avq, R1.l2.length, avd), (azq, R3.l2.length, azd)]) (v5.alloc (.cells #[.slice app R1.l1.length apc, .slice aqp R1.l1.length aqc, .slice arp R2.l1.length arc, .slice avp R1.l1.length avc, .slice azp R3.l1.length azc, .slice apq R1.l2.length apd, .slice aqq R1.l2.length aqd, .slice arq R2.l2.length ard, .slice avq R1.l2.length avd, .slice azq R3.l2.length azd] 26)) hLs
  have oz : (v5.alloc (.cells #[.slice app R1.l1.length apc, .slice aqp R1.l1.length aqc, .slice arp R2.l1.length arc, .slice avp R1.l1.length avc, .slice azp R3.l1.length azc, .slice apq R1.l2.length apd, .slice aqq R1.l2.length aqd, .slice arq R2.l2.length ard, .slice avq R1.l2.length avd, .slice azq R3.l2.length azd] 26)).heap.size = v5.heap.size + 1 := by simp
  have kk : Kp v5 (v5.alloc (.cells #[.slice app R1.l1.length apc, .slice aqp R1.l1.length aqc, .slice arp R2.l1.length arc, .slice avp R1.l1.length avc, .slice azp R3.l1.length azc, .slice apq R1.l2.length apd, .slice aqq R1.l2.length aqd, .slice arq R2.l2.length ard, .slice avq R1.l2.length avd, .slice azq R3.l2.length azd] 26)) := (Kp.refl _).alloc _
  have yap0 := aps.c0
  have yap1 := aps.c1
  have yaq0 := aqs.c0
  have yaq1 := aqs.c1
  have yar0 := ars.c0
  have yar1 := ars.c1
  have yav0 := avs.c0
  have yav1 := avs.c1
  have yaz0 := azs.c0
  have yaz1 := azs.c1
  have HQ : Hid (∀ v6, Ks (v5.alloc (.cells #[.slice app R1.l1.length apc, .slice aqp R1.l1.length aqc, .slice arp R2.l1.length arc, .slice avp R1.l1.length avc, .slice azp R3.l1.length azc, .slice apq R1.l2.length apd, .slice aqq R1.l2.length aqd, .slice arq R2.l2.length ard, .slice avq R1.l2.length avd, .slice azq R3.l2.length azd] 26)).heap.size (Lists.X 10 (ePs [(app, R1.l1.length, apc), (aqp, R1.l1.length, aqc), (arp, R2.l1.length, arc), (avp, R1.l1.length, avc), (azp, R3.l1.length, azc), (apq, R1.l2.length, apd), (aqq, R1.l2.length, aqd), (arq, R2.l2.length, ard), (avq, R1.l2.length, avd), (azq, R3.l2.length, azd)])) (v5.alloc (.cells #[.slice app R1.l1.length apc, .slice aqp R1.l1.length aqc, .slice arp R2.l1.length arc, .slice avp R1.l1.length avc, .slice azp R3.l1.length azc, .slice apq R1.l2.length apd, .slice aqq R1.l2.length aqd, .slice arq R2.l2.length ard, .slice avq R1.l2.length avd, .slice azq R3.l2.length azd] 26)) v6 → Rw v6 gu N xs ∧ Rw v6 gx (N + 80) (xs ++ gds) ∧ Rw v6 gw M ys ∧ Rw v6 gy (M + 80) (ys ++ gds) ∧ Kp w v6) := by
    show ∀ v6, Ks (v5.alloc (.cells #[.slice app R1.l1.length apc, .slice aqp R1.l1.length aqc, .slice arp R2.l1.length arc, .slice avp R1.l1.length avc, .slice azp R3.l1.length azc, .slice apq R1.l2.length apd, .slice aqq R1.l2.length aqd, .slice arq R2.l2.length ard, .slice avq R1.l2.length avd, .slice azq R3.l2.length azd] 26)).heap.size (Lists.X 10 (ePs [(app, R1.l1.length, apc), (aqp, R1.l1.length, aqc), (arp, R2.l1.length, arc), (avp, R1.l1.length, avc), (azp, R3.l1.length, azc), (apq, R1.l2.length, apd), (aqq, R1.l2.length, aqd), (arq, R2.l2.length, ard), (avq, R1.l2.length, avd), (azq, R3.l2.length, azd)])) (v5.alloc (.cells #[.slice app R1.l1.length apc, .slice aqp R1.l1.length aqc, .slice arp R2.l1.length arc, .slice avp R1.l1.length avc, .slice azp R3.l1.length azc, .slice apq R1.l2.length apd, .slice aqq R1.l2.length aqd, .slice arq R2.l2.length ard, .slice avq R1.l2.length avd, .slice azq R3.l2.length azd] 26)) v6 → Rw v6 gu N xs ∧ Rw v6 gx (N + 80) (xs ++ gds) ∧ Rw v6 gw M ys ∧ Rw v6 gy (M + 80) (ys ++ gds) ∧ Kp w v6
    intro v6 ks
    refine ⟨ks.row (rgu.grown kk) (by omega) (fun hx => by have := hX _ hx; omega), ks.row (rgx.grown kk) (by omega) (fun hx => by have := hX _ hx; omega), ks.row (rgw.grown kk) (by omega) (fun hx => by have := hX _ hx; omega), ks.row (rgy.grown kk) (by omega) (fun hx => by have := hX _ hx; omega), ks.kp (K.trans kk) (by omega) (fun g hx => by have := hX g hx; omega)⟩
  clear hX hLs oz kk rgu rgx rgw rgy rgt K ap aq ar av az aps aqs ars avs azs
  go_wp2_with fail
  refine q1.mono ?_
  clear q1
  rintro e v6 ⟨rfl, ks⟩
  obtain ⟨rgu, rgx, rgw, rgy, K⟩ := HQ.out v6 ks
  clear ks HQ
  go_wp2_with fail
  have q1 := left_ (some ⟨gu, 0, none⟩) N gx xs v6 (rgu.all HN.out.1.symm) (by rw [← HN.out.1]; exact rgx) (by have := HN.out.1; omega)
  rw [← HN.out.1] at q1
  refine q1.mono ?_
  clear q1
  rintro e w30 ⟨rfl, kk⟩
  have o30 : v6.heap.size ≤ w30.heap.size := kk.size
  replace rgu := rgu.grown kk
  replace rgx := rgx.grown kk
  replace rgw := rgw.grown kk
  replace rgy := rgy.grown kk
  replace K := K.trans kk
  clear kk
  go_wp2_with fail
  have q1 := left_ (some ⟨gw, 0, none⟩) M gy ys w30 (rgw.all HN.out.2.1.symm) (by rw [← HN.out.2.1]; exact rgy) (by have := HN.out.2.1; omega)
  rw [← HN.out.2.1] at q1
  refine q1.mono ?_
  clear q1
  rintro e w31 ⟨rfl, kk⟩
  have o31 : w30.heap.size ≤ w31.heap.size := kk.size
  replace rgu := rgu.grown kk
  replace rgx := rgx.grown kk
  replace rgw := rgw.grown kk
  replace rgy := rgy.grown kk
  replace K := K.trans kk
  clear kk
  clear rgu rgx rgw rgy
  go_wp2
  exact bodyPost_ret (v := .bool true) (by simp [results, Tryd.results18, go_sem] <;> simp only [*]) rfl ⟨rfl, K⟩
end Go.Proofs.YtkjcnnjgaififaaDoor
