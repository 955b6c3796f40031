import Derived.Test.YtkjcnnjgaififaaDoorProg
import Derived.Test.YtkjcnnjgaififaaDoorKA
import Derived.Test.YtkjcnnjgaififaaDoorKA2
import Derived.Test.YtkjcnnjgaififaaDoorKA3
import Derived.Test.YtkjcnnjgaififaaDoorKA4
import Derived.Test.YtkjcnnjgaififaaDoorKXM
import Derived.Test.YtkjcnnjgaififaaDoorKXT
import Derived.Test.YtkjcnnjgaififaaDoorKA5
import Derived.Test.YtkjcnnjgaififaaDoorKAT
import Derived.Test.YtkjcnnjgaififaaDoorKLB
import Derived.Test.YtkjcnnjgaififaaDoorKLN
import Derived.Test.YtkjcnnjgaififaaDoorKPR
import Derived.Test.YtkjcnnjgaififaaDoorKSL
import Derived.Test.YtkjcnnjgaififaaDoorKSR
import Derived.Test.YtkjcnnjgaififaaDoorKNF
import Derived.Test.YtkjcnnjgaififaaDoorKXQ
import Derived.Test.YtkjcnnjgaififaaDoorKTO
import Derived.Test.YtkjcnnjgaififaaDoorKHB
import Derived.Test.YtkjcnnjgaififaaDoorKZE
import Derived.Test.YtkjcnnjgaififaaDoorKTZ
import Derived.Test.YtkjcnnjgaififaaDoorKBW
import Derived.Test.YtkjcnnjgaififaaDoorKNSm
import Derived.Test.YtkjcnnjgaififaaDoorKW4
import Derived.Test.YtkjcnnjgaififaaDoorKRW
import Derived.Test.YtkjcnnjgaififaaDoorKNA
import Derived.Test.YtkjcnnjgaififaaDoorKNS
import Derived.Test.YtkjcnnjgaififaaDoorKNM
import Derived.Test.YtkjcnnjgaififaaDoorKNPw
import Derived.Test.YtkjcnnjgaififaaDoorKXS
import Derived.Test.YtkjcnnjgaififaaDoorKLI
import Derived.Test.YtkjcnnjgaififaaDoorKLS
import Derived.Test.YtkjcnnjgaififaaDoorKNQ
import Derived.Test.YtkjcnnjgaififaaDoorKNC
import Derived.Test.YtkjcnnjgaififaaDoorKRT9
import Derived.Test.YtkjcnnjgaififaaDoorKTL
import Derived.WalkKit
import Derived.ProofKit
import Derived.RowKit3
import Derived.WalkSpells
import Derived.StillTactics
import Derived.Deep.QuietTactic
import Derived.BigQuiet
import Derived.Below
import Derived.Deep.OwnRows
import Derived.OwnWalk
namespace Go.Proofs.YtkjcnnjgaififaaDoor
open Go.RowKit
set_option maxRecDepth 20000 in
set_option maxHeartbeats 2000000 in
theorem there_ (pa pb : Option Addr) (ca cb : Nat) (xs ys : List Int) (z : Int) (w : World) (hT : Tab w) (hx0 : Arr w pa xs) (hy0 : Arr w pb ys) (hwx : Wd xs) (hwy : Wd ys) (lx : xs.length ≤ 1048576) (ly : ys.length ≤ 1048576) :
    Calls Tryd.prog 7 #[.slice pa xs.length ca, .slice pb ys.length cb, .int .i64 z] w fun e w' => e = .returned (.bool true) ∧ Kp w w' := by
  have s1 := short_ pa ca 64 xs w hx0 lx
  have s2 := fun w' h => short_ pb cb 64 ys w' (hy0.grown h) ly
  have Bx : Hid (Wd (xs.take 64) ∧ Sm 64 (val (xs.take 64)) ∧ (xs.take 64).length ≤ 1048576) := takeB2 xs hwx 64 (by omega)
  have By0 : Hid (Wd (ys.take 64) ∧ Sm 64 (val (ys.take 64)) ∧ (ys.take 64).length ≤ 1048576) := takeB2 ys hwy 64 (by omega)
  obtain ⟨C1, hC1⟩ : ∃ C1, C1 = xs.length := ⟨_, rfl⟩
  obtain ⟨C2, hC2⟩ : ∃ C2, C2 = ys.length := ⟨_, rfl⟩
  rw [← hC1] at s1
  rw [← hC2] at s2
  rw [← hC1, ← hC2]
  obtain ⟨Lx, hLx⟩ : ∃ Lx, Lx = xs.take 64 := ⟨_, rfl⟩
  obtain ⟨L0, hL0⟩ : ∃ L0, L0 = ys.take 64 := ⟨_, rfl⟩
  rw [← hLx] at s1 Bx
  rw [← hL0] at s2 By0
  have HT : Hid (Tab w) := hT
  obtain ⟨M, hM⟩ : ∃ M : Nat, M ≤ 4000 ∧ ((¬ z < 0 ∧ ¬ 4000 < z → (M : Int) = z) ∧ (z < 0 ∨ 4000 < z → (M : Int) = 33)) := by
    by_cases c : ¬ z < 0 ∧ ¬ 4000 < z
    · exact ⟨z.toNat, by omega, by omega, by omega⟩
    · exact ⟨33, by omega, by omega, by omega⟩
  have HM : Hid (M ≤ 4000 ∧ ((¬ z < 0 ∧ ¬ 4000 < z → (M : Int) = z) ∧ (z < 0 ∨ 4000 < z → (M : Int) = 33))) := hM
  clear hx0 hy0 hwx hwy lx ly hC1 hC2 hLx hL0 hT hM
  have HK : Hid (Kp w w) := Kp.refl w
  go_enter Tryd.func7, Tryd.ntmps7
  have hc := s1
  try simp only [val_dig] at hc
  go_wp2_with fail
  refine hc.mono ?_
  rintro e w1 ⟨vx, rfl, hn, hk⟩
  clear hc
  have hx : Hid (Ls w1 vx (Lx)) := hn
  replace HK : Hid (Kp w w1) := HK.out.trans hk
  clear hk hn
  clear s1
  have hc := s2 w1 HK.out
  try simp only [val_dig] at hc
  go_wp2_with fail
  refine hc.mono ?_
  rintro e w2 ⟨vy0, rfl, hn, hk⟩
  clear hc
  have hy0 : Hid (Ls w2 vy0 (L0)) := hn
  replace hx : Hid (Ls w2 vx (Lx)) := hx.out.kp hk
  replace HK : Hid (Kp w w2) := HK.out.trans hk
  clear hk hn
  clear s2
  have hc := cmpL vy0 (.slice none 0 0) L0 [] w2 hy0.out ⟨none, 0, rfl, Or.inl rfl, by simp⟩ By0.out.1 Wd.nil By0.out.2.2 (by simp)
  rw [show val ([] : List Int) = 0 from rfl] at hc
  by_cases cy : val L0 = 0
  · rw [cy, cmpN_eq rfl] at hc
    clear cy
    go_wp2_with fail
    refine hc.mono ?_
    rintro e w3 ⟨rfl, hk⟩
    clear hc
    replace hx : Hid (Ls w3 vx (Lx)) := hx.out.kp hk
    replace hy0 : Hid (Ls w3 vy0 (L0)) := hy0.out.kp hk
    replace HK : Hid (Kp w w3) := HK.out.trans hk
    clear hk
    obtain ⟨g7, hg7⟩ : ∃ g7, g7 = w3.heap.size := ⟨_, rfl⟩
    obtain ⟨w7, hw7⟩ : ∃ w7, w7 = (w3).alloc (.cells #[.int .u32 7] 25) := ⟨_, rfl⟩
    have kpz : Kp w3 w7 := by rw [hw7]; exact (Kp.refl _).alloc _
    have arz : Arr w7 (some ⟨g7, 0, none⟩) [7] := by
      have h := (row1 w3 7).all rfl
      rw [← hw7] at h
      rw [show g7 = w3.heap.size from by exact hg7]
      exact h
    clear hy0
    replace hx : Hid (Ls w7 vx Lx) := hx.out.kp kpz
    replace HK : Hid (Kp w w7) := HK.out.trans kpz
    obtain ⟨vy, hvy⟩ : ∃ vy, vy = Value.slice (some ⟨g7, 0, none⟩) 1 1 := ⟨_, rfl⟩
    obtain ⟨Ly, hLy⟩ : ∃ Ly : List Int, Ly = [7] := ⟨_, rfl⟩
    have hy : Hid (Ls w7 vy Ly) := ⟨some ⟨g7, 0, none⟩, 1, by rw [hvy, hLy]; rfl, by rw [hLy]; exact arz, by rw [hLy]; simp⟩
    have By : Hid (Wd Ly ∧ Sm 64 (val Ly) ∧ Ly.length ≤ 1048576) := ⟨by rw [hLy]; exact wd1 7 (by decide), Sm.mono (K := 1) (by rw [hLy]; exact (show val [7] < 4294967296 ^ 1 from by decide)) (by omega), by rw [hLy]; simp⟩
    have Y0 : Hid (val Ly ≠ 0) := by rw [hLy]; exact (show val [7] ≠ 0 from by decide)
    clear kpz arz hLy By0
    have hc := mulL vx vy (Lx) Ly w7 64 64 hx.out hy.out Bx.out.1 By.out.1 Bx.out.2.1 By.out.2.1 (by omega) Bx.out.2.2 By.out.2.2
    try simp only [val_dig] at hc
    go_wp2_with fail
    rw [← hw7, ← hg7, ← hvy]
    clear hw7 hg7 hvy
    refine hc.mono ?_
    rintro e w4 ⟨vp, rfl, hn, hk⟩
    clear hc
    have hp : Hid (Ls w4 vp (dig (val Lx * val Ly))) := hn
    replace hx : Hid (Ls w4 vx (Lx)) := hx.out.kp hk
    replace hy : Hid (Ls w4 vy Ly) := hy.out.kp hk
    replace HK : Hid (Kp w w4) := HK.out.trans hk
    clear hk hn
    have Bp : Hid (Wd (dig (val Lx * val Ly)) ∧ Sm (128) (val (dig (val Lx * val Ly))) ∧ (dig (val Lx * val Ly)).length ≤ 1048576) := digB2 (K := 128) (Sm.mul (by have h := Bx.out.2.1; first | (simp only [val_dig] at h; exact h) | exact h) (by have h := By.out.2.1; first | (simp only [val_dig] at h; exact h) | exact h)) (by omega)
    have hc := quoL vx vy Lx Ly w4 64 hx.out hy.out Bx.out.1 By.out.1 Bx.out.2.1 By.out.2.1 (by omega) Y0.out Bx.out.2.2 By.out.2.2
    try simp only [val_dig] at hc
    go_wp2_with fail
    refine hc.mono ?_
    rintro e w5 ⟨vq0, vr, rfl, hnA, hnB, hk⟩
    clear hc
    have hq0 : Hid (Ls w5 vq0 (dig (val Lx / val Ly))) := hnA
    have hr : Hid (Ls w5 vr (dig (val Lx % val Ly))) := hnB
    replace hx : Hid (Ls w5 vx (Lx)) := hx.out.kp hk
    replace hy : Hid (Ls w5 vy Ly) := hy.out.kp hk
    replace hp : Hid (Ls w5 vp (dig (val Lx * val Ly))) := hp.out.kp hk
    replace HK : Hid (Kp w w5) := HK.out.trans hk
    clear hk hnA hnB
    clear hq0
    have Br : Hid (Wd (dig (val Lx % val Ly)) ∧ Sm (64) (val (dig (val Lx % val Ly))) ∧ (dig (val Lx % val Ly)).length ≤ 1048576) := digB2 (K := 64) (Nat.lt_of_le_of_lt (Nat.mod_le _ _) Bx.out.2.1) (by omega)
    have hc := addL vp vr (dig (val Lx * val Ly)) (dig (val Lx % val Ly)) w5 128 hp.out hr.out Bp.out.1 Br.out.1 (Bp.out.2.1.mono (by omega)) (Br.out.2.1.mono (by omega)) (by omega) Bp.out.2.2 Br.out.2.2
    try simp only [val_dig] at hc
    go_wp2_with fail
    refine hc.mono ?_
    rintro e w6 ⟨va, rfl, hn, hk⟩
    clear hc
    have ha : Hid (Ls w6 va (dig (val Lx * val Ly + val Lx % val Ly))) := hn
    replace hx : Hid (Ls w6 vx (Lx)) := hx.out.kp hk
    replace hy : Hid (Ls w6 vy Ly) := hy.out.kp hk
    replace hp : Hid (Ls w6 vp (dig (val Lx * val Ly))) := hp.out.kp hk
    replace hr : Hid (Ls w6 vr (dig (val Lx % val Ly))) := hr.out.kp hk
    replace HK : Hid (Kp w w6) := HK.out.trans hk
    clear hk hn
    have Ba : Hid (Wd (dig (val Lx * val Ly + val Lx % val Ly)) ∧ Sm (129) (val (dig (val Lx * val Ly + val Lx % val Ly))) ∧ (dig (val Lx * val Ly + val Lx % val Ly)).length ≤ 1048576) := digB2 (K := 129) (Sm.add (Sm.mono (by have h := Bp.out.2.1; first | (simp only [val_dig] at h; exact h) | exact h) (by omega)) (Sm.mono (by have h := Br.out.2.1; first | (simp only [val_dig] at h; exact h) | exact h) (by omega))) (by omega)
    have hc := quoL va vy (dig (val Lx * val Ly + val Lx % val Ly)) Ly w6 129 ha.out hy.out Ba.out.1 By.out.1 Ba.out.2.1 (By.out.2.1.mono (by omega)) (by omega) Y0.out Ba.out.2.2 By.out.2.2
    try simp only [val_dig] at hc
    go_wp2_with fail
    refine hc.mono ?_
    rintro e w7 ⟨vu, vv, rfl, hnA, hnB, hk⟩
    clear hc
    have hu : Hid (Ls w7 vu (dig ((val Lx * val Ly + val Lx % val Ly) / val Ly))) := hnA
    have hv : Hid (Ls w7 vv (dig ((val Lx * val Ly + val Lx % val Ly) % val Ly))) := hnB
    replace hx : Hid (Ls w7 vx (Lx)) := hx.out.kp hk
    replace hy : Hid (Ls w7 vy Ly) := hy.out.kp hk
    replace hp : Hid (Ls w7 vp (dig (val Lx * val Ly))) := hp.out.kp hk
    replace hr : Hid (Ls w7 vr (dig (val Lx % val Ly))) := hr.out.kp hk
    replace ha : Hid (Ls w7 va (dig (val Lx * val Ly + val Lx % val Ly))) := ha.out.kp hk
    replace HK : Hid (Kp w w7) := HK.out.trans hk
    clear hk hnA hnB
    have hc := cmpL vr vy (dig (val Lx % val Ly)) Ly w7 hr.out hy.out Br.out.1 By.out.1 Br.out.2.2 By.out.2.2
    rw [val_dig, cmpN_lt (Nat.mod_lt _ (Nat.pos_of_ne_zero Y0.out))] at hc
    go_wp2_with fail
    refine hc.mono ?_
    rintro e w8 ⟨rfl, hk⟩
    clear hc
    replace hx : Hid (Ls w8 vx (Lx)) := hx.out.kp hk
    replace hy : Hid (Ls w8 vy Ly) := hy.out.kp hk
    replace hp : Hid (Ls w8 vp (dig (val Lx * val Ly))) := hp.out.kp hk
    replace hr : Hid (Ls w8 vr (dig (val Lx % val Ly))) := hr.out.kp hk
    replace ha : Hid (Ls w8 va (dig (val Lx * val Ly + val Lx % val Ly))) := ha.out.kp hk
    replace hu : Hid (Ls w8 vu (dig ((val Lx * val Ly + val Lx % val Ly) / val Ly))) := hu.out.kp hk
    replace hv : Hid (Ls w8 vv (dig ((val Lx * val Ly + val Lx % val Ly) % val Ly))) := hv.out.kp hk
    replace HK : Hid (Kp w w8) := HK.out.trans hk
    clear hk
    have hc := lives_ w8
    try simp only [val_dig] at hc
    go_wp2_with fail
    refine hc.mono ?_
    rintro e w9 ⟨rfl, hk⟩
    clear hc
    replace hx : Hid (Ls w9 vx (Lx)) := hx.out.kp hk
    replace hy : Hid (Ls w9 vy Ly) := hy.out.kp hk
    replace hp : Hid (Ls w9 vp (dig (val Lx * val Ly))) := hp.out.kp hk
    replace hr : Hid (Ls w9 vr (dig (val Lx % val Ly))) := hr.out.kp hk
    replace ha : Hid (Ls w9 va (dig (val Lx * val Ly + val Lx % val Ly))) := ha.out.kp hk
    replace hu : Hid (Ls w9 vu (dig ((val Lx * val Ly + val Lx % val Ly) / val Ly))) := hu.out.kp hk
    replace hv : Hid (Ls w9 vv (dig ((val Lx * val Ly + val Lx % val Ly) % val Ly))) := hv.out.kp hk
    replace HK : Hid (Kp w w9) := HK.out.trans hk
    clear hk
    have hc := normL vx Lx w9 hx.out Bx.out.1 Bx.out.2.2
    try simp only [val_dig] at hc
    go_wp2_with fail
    refine hc.mono ?_
    rintro e w10 ⟨vnx, rfl, hn, hk⟩
    clear hc
    have hnx : Hid (Ls w10 vnx (dig (val Lx))) := hn
    replace hx : Hid (Ls w10 vx (Lx)) := hx.out.kp hk
    replace hy : Hid (Ls w10 vy Ly) := hy.out.kp hk
    replace hp : Hid (Ls w10 vp (dig (val Lx * val Ly))) := hp.out.kp hk
    replace hr : Hid (Ls w10 vr (dig (val Lx % val Ly))) := hr.out.kp hk
    replace ha : Hid (Ls w10 va (dig (val Lx * val Ly + val Lx % val Ly))) := ha.out.kp hk
    replace hu : Hid (Ls w10 vu (dig ((val Lx * val Ly + val Lx % val Ly) / val Ly))) := hu.out.kp hk
    replace hv : Hid (Ls w10 vv (dig ((val Lx * val Ly + val Lx % val Ly) % val Ly))) := hv.out.kp hk
    replace HK : Hid (Kp w w10) := HK.out.trans hk
    clear hk hn
    have hc := sameL vu vnx (dig ((val Lx * val Ly + val Lx % val Ly) / val Ly)) (dig (val Lx)) w10 hu.out hnx.out (by rw [(there_quo _ _ (Nat.pos_of_ne_zero Y0.out)).1]) (by rw [(there_quo _ _ (Nat.pos_of_ne_zero Y0.out)).1]; exact Nat.le_trans (Sm.len Bx.out.2.1) (by omega))
    try simp only [val_dig] at hc
    go_wp2_with fail
    refine hc.mono ?_
    rintro e w11 ⟨rfl, hk⟩
    clear hc
    replace hx : Hid (Ls w11 vx (Lx)) := hx.out.kp hk
    replace hy : Hid (Ls w11 vy Ly) := hy.out.kp hk
    replace hp : Hid (Ls w11 vp (dig (val Lx * val Ly))) := hp.out.kp hk
    replace hr : Hid (Ls w11 vr (dig (val Lx % val Ly))) := hr.out.kp hk
    replace ha : Hid (Ls w11 va (dig (val Lx * val Ly + val Lx % val Ly))) := ha.out.kp hk
    replace hu : Hid (Ls w11 vu (dig ((val Lx * val Ly + val Lx % val Ly) / val Ly))) := hu.out.kp hk
    replace hv : Hid (Ls w11 vv (dig ((val Lx * val Ly + val Lx % val Ly) % val Ly))) := hv.out.kp hk
    replace hnx : Hid (Ls w11 vnx (dig (val Lx))) := hnx.out.kp hk
    replace HK : Hid (Kp w w11) := HK.out.trans hk
    clear hk
    have hc := sameL vv vr (dig ((val Lx * val Ly + val Lx % val Ly) % val Ly)) (dig (val Lx % val Ly)) w11 hv.out hr.out (by rw [(there_quo _ _ (Nat.pos_of_ne_zero Y0.out)).2]) (by rw [(there_quo _ _ (Nat.pos_of_ne_zero Y0.out)).2]; exact Br.out.2.2)
    try simp only [val_dig] at hc
    go_wp2_with fail
    refine hc.mono ?_
    rintro e w12 ⟨rfl, hk⟩
    clear hc
    replace hx : Hid (Ls w12 vx (Lx)) := hx.out.kp hk
    replace hy : Hid (Ls w12 vy Ly) := hy.out.kp hk
    replace hp : Hid (Ls w12 vp (dig (val Lx * val Ly))) := hp.out.kp hk
    replace hr : Hid (Ls w12 vr (dig (val Lx % val Ly))) := hr.out.kp hk
    replace ha : Hid (Ls w12 va (dig (val Lx * val Ly + val Lx % val Ly))) := ha.out.kp hk
    replace hu : Hid (Ls w12 vu (dig ((val Lx * val Ly + val Lx % val Ly) / val Ly))) := hu.out.kp hk
    replace hv : Hid (Ls w12 vv (dig ((val Lx * val Ly + val Lx % val Ly) % val Ly))) := hv.out.kp hk
    replace hnx : Hid (Ls w12 vnx (dig (val Lx))) := hnx.out.kp hk
    replace HK : Hid (Kp w w12) := HK.out.trans hk
    clear hk
    clear hp
    clear hr
    clear ha
    clear hu
    clear hv
    clear hnx
    have hc := mulL vy vy Ly Ly w12 64 64 hy.out hy.out By.out.1 By.out.1 By.out.2.1 By.out.2.1 (by omega) By.out.2.2 By.out.2.2
    try simp only [val_dig] at hc
    go_wp2_with fail
    refine hc.mono ?_
    rintro e w13 ⟨vsq, rfl, hn, hk⟩
    clear hc
    have hsq : Hid (Ls w13 vsq (dig (val Ly * val Ly))) := hn
    replace hx : Hid (Ls w13 vx (Lx)) := hx.out.kp hk
    replace hy : Hid (Ls w13 vy Ly) := hy.out.kp hk
    replace HK : Hid (Kp w w13) := HK.out.trans hk
    clear hk hn
    have Bsq : Hid (Wd (dig (val Ly * val Ly)) ∧ Sm (128) (val (dig (val Ly * val Ly))) ∧ (dig (val Ly * val Ly)).length ≤ 1048576) := digB2 (K := 128) (Sm.mul (by have h := By.out.2.1; first | (simp only [val_dig] at h; exact h) | exact h) (by have h := By.out.2.1; first | (simp only [val_dig] at h; exact h) | exact h)) (by omega)
    have hc := addL vy vy Ly Ly w13 64 hy.out hy.out By.out.1 By.out.1 (By.out.2.1.mono (by omega)) (By.out.2.1.mono (by omega)) (by omega) By.out.2.2 By.out.2.2
    try simp only [val_dig] at hc
    go_wp2_with fail
    refine hc.mono ?_
    rintro e w14 ⟨vtw, rfl, hn, hk⟩
    clear hc
    have htw : Hid (Ls w14 vtw (dig (val Ly + val Ly))) := hn
    replace hx : Hid (Ls w14 vx (Lx)) := hx.out.kp hk
    replace hy : Hid (Ls w14 vy Ly) := hy.out.kp hk
    replace hsq : Hid (Ls w14 vsq (dig (val Ly * val Ly))) := hsq.out.kp hk
    replace HK : Hid (Kp w w14) := HK.out.trans hk
    clear hk hn
    have Btw : Hid (Wd (dig (val Ly + val Ly)) ∧ Sm (65) (val (dig (val Ly + val Ly))) ∧ (dig (val Ly + val Ly)).length ≤ 1048576) := digB2 (K := 65) (Sm.add (Sm.mono (by have h := By.out.2.1; first | (simp only [val_dig] at h; exact h) | exact h) (by omega)) (Sm.mono (by have h := By.out.2.1; first | (simp only [val_dig] at h; exact h) | exact h) (by omega))) (by omega)
    have hc := addL vsq vtw (dig (val Ly * val Ly)) (dig (val Ly + val Ly)) w14 128 hsq.out htw.out Bsq.out.1 Btw.out.1 (Bsq.out.2.1.mono (by omega)) (Btw.out.2.1.mono (by omega)) (by omega) Bsq.out.2.2 Btw.out.2.2
    try simp only [val_dig] at hc
    go_wp2_with fail
    refine hc.mono ?_
    rintro e w15 ⟨vov, rfl, hn, hk⟩
    clear hc
    have hov : Hid (Ls w15 vov (dig (val Ly * val Ly + (val Ly + val Ly)))) := hn
    replace hx : Hid (Ls w15 vx (Lx)) := hx.out.kp hk
    replace hy : Hid (Ls w15 vy Ly) := hy.out.kp hk
    replace hsq : Hid (Ls w15 vsq (dig (val Ly * val Ly))) := hsq.out.kp hk
    replace htw : Hid (Ls w15 vtw (dig (val Ly + val Ly))) := htw.out.kp hk
    replace HK : Hid (Kp w w15) := HK.out.trans hk
    clear hk hn
    have Bov : Hid (Wd (dig (val Ly * val Ly + (val Ly + val Ly))) ∧ Sm (129) (val (dig (val Ly * val Ly + (val Ly + val Ly)))) ∧ (dig (val Ly * val Ly + (val Ly + val Ly))).length ≤ 1048576) := digB2 (K := 129) (Sm.add (Sm.mono (by have h := Bsq.out.2.1; first | (simp only [val_dig] at h; exact h) | exact h) (by omega)) (Sm.mono (by have h := Btw.out.2.1; first | (simp only [val_dig] at h; exact h) | exact h) (by omega))) (by omega)
    have hc := rootL vsq (dig (val Ly * val Ly)) (val Ly) w15 128 hsq.out Bsq.out.1 Bsq.out.2.1 (by omega) Bsq.out.2.2 (by rw [val_dig]; exact there_sq _)
    rw [val_dig] at hc
    rw [decide_eq_true rfl] at hc
    go_wp2_with fail
    refine hc.mono ?_
    rintro e w16 ⟨vs, rfl, hn, hk⟩
    clear hc
    have hs : Hid (Ls w16 vs (dig (val Ly))) := hn
    replace hx : Hid (Ls w16 vx (Lx)) := hx.out.kp hk
    replace hy : Hid (Ls w16 vy Ly) := hy.out.kp hk
    replace hsq : Hid (Ls w16 vsq (dig (val Ly * val Ly))) := hsq.out.kp hk
    replace htw : Hid (Ls w16 vtw (dig (val Ly + val Ly))) := htw.out.kp hk
    replace hov : Hid (Ls w16 vov (dig (val Ly * val Ly + (val Ly + val Ly)))) := hov.out.kp hk
    replace HK : Hid (Kp w w16) := HK.out.trans hk
    clear hk hn
    have hc := rootL vov (dig (val Ly * val Ly + (val Ly + val Ly))) (val Ly) w16 129 hov.out Bov.out.1 Bov.out.2.1 (by omega) Bov.out.2.2 (by rw [val_dig]; exact there_over _)
    rw [val_dig] at hc
    rw [decide_eq_false (by have := Y0.out; omega)] at hc
    go_wp2_with fail
    refine hc.mono ?_
    rintro e w17 ⟨vt, rfl, hn, hk⟩
    clear hc
    have ht : Hid (Ls w17 vt (dig (val Ly))) := hn
    replace hx : Hid (Ls w17 vx (Lx)) := hx.out.kp hk
    replace hy : Hid (Ls w17 vy Ly) := hy.out.kp hk
    replace hsq : Hid (Ls w17 vsq (dig (val Ly * val Ly))) := hsq.out.kp hk
    replace htw : Hid (Ls w17 vtw (dig (val Ly + val Ly))) := htw.out.kp hk
    replace hov : Hid (Ls w17 vov (dig (val Ly * val Ly + (val Ly + val Ly)))) := hov.out.kp hk
    replace hs : Hid (Ls w17 vs (dig (val Ly))) := hs.out.kp hk
    replace HK : Hid (Kp w w17) := HK.out.trans hk
    clear hk hn
    have hc := normL vy Ly w17 hy.out By.out.1 By.out.2.2
    try simp only [val_dig] at hc
    go_wp2_with fail
    refine hc.mono ?_
    rintro e w18 ⟨vny, rfl, hn, hk⟩
    clear hc
    have hny : Hid (Ls w18 vny (dig (val Ly))) := hn
    replace hx : Hid (Ls w18 vx (Lx)) := hx.out.kp hk
    replace hy : Hid (Ls w18 vy Ly) := hy.out.kp hk
    replace hsq : Hid (Ls w18 vsq (dig (val Ly * val Ly))) := hsq.out.kp hk
    replace htw : Hid (Ls w18 vtw (dig (val Ly + val Ly))) := htw.out.kp hk
    replace hov : Hid (Ls w18 vov (dig (val Ly * val Ly + (val Ly + val Ly)))) := hov.out.kp hk
    replace hs : Hid (Ls w18 vs (dig (val Ly))) := hs.out.kp hk
    replace ht : Hid (Ls w18 vt (dig (val Ly))) := ht.out.kp hk
    replace HK : Hid (Kp w w18) := HK.out.trans hk
    clear hk hn
    have hc := sameL vs vny (dig (val Ly)) (dig (val Ly)) w18 hs.out hny.out rfl (Nat.le_trans (Sm.len By.out.2.1) (by omega))
    try simp only [val_dig] at hc
    go_wp2_with fail
    refine hc.mono ?_
    rintro e w19 ⟨rfl, hk⟩
    clear hc
    replace hx : Hid (Ls w19 vx (Lx)) := hx.out.kp hk
    replace hy : Hid (Ls w19 vy Ly) := hy.out.kp hk
    replace hsq : Hid (Ls w19 vsq (dig (val Ly * val Ly))) := hsq.out.kp hk
    replace htw : Hid (Ls w19 vtw (dig (val Ly + val Ly))) := htw.out.kp hk
    replace hov : Hid (Ls w19 vov (dig (val Ly * val Ly + (val Ly + val Ly)))) := hov.out.kp hk
    replace hs : Hid (Ls w19 vs (dig (val Ly))) := hs.out.kp hk
    replace ht : Hid (Ls w19 vt (dig (val Ly))) := ht.out.kp hk
    replace hny : Hid (Ls w19 vny (dig (val Ly))) := hny.out.kp hk
    replace HK : Hid (Kp w w19) := HK.out.trans hk
    clear hk
    have hc := sameL vt vs (dig (val Ly)) (dig (val Ly)) w19 ht.out hs.out rfl (Nat.le_trans (Sm.len By.out.2.1) (by omega))
    try simp only [val_dig] at hc
    go_wp2_with fail
    refine hc.mono ?_
    rintro e w20 ⟨rfl, hk⟩
    clear hc
    replace hx : Hid (Ls w20 vx (Lx)) := hx.out.kp hk
    replace hy : Hid (Ls w20 vy Ly) := hy.out.kp hk
    replace hsq : Hid (Ls w20 vsq (dig (val Ly * val Ly))) := hsq.out.kp hk
    replace htw : Hid (Ls w20 vtw (dig (val Ly + val Ly))) := htw.out.kp hk
    replace hov : Hid (Ls w20 vov (dig (val Ly * val Ly + (val Ly + val Ly)))) := hov.out.kp hk
    replace hs : Hid (Ls w20 vs (dig (val Ly))) := hs.out.kp hk
    replace ht : Hid (Ls w20 vt (dig (val Ly))) := ht.out.kp hk
    replace hny : Hid (Ls w20 vny (dig (val Ly))) := hny.out.kp hk
    replace HK : Hid (Kp w w20) := HK.out.trans hk
    clear hk
    clear hsq
    clear htw
    clear hov
    clear hs
    clear ht
    clear hny
    clear hy
    have a2 : (¬ z < 0 ∧ ¬ 4000 < z) ∨ z < 0 ∨ (¬ z < 0 ∧ 4000 < z) := by omega
    rcases a2 with ⟨d1, d2⟩ | d1 | ⟨d1, d2⟩
    all_goals
      have hc := fun zz hz => shlL vx Lx w20 M zz hz hx.out Bx.out.1 Bx.out.2.1 HM.out.1 Bx.out.2.2
      go_wp2_with fail
      refine (hc _ (by have h1 := HM.out; first | omega | (simp; omega))).mono ?_
      rintro e w21 ⟨vup, rfl, hn, hk⟩
      clear hc
      have hup : Hid (Ls w21 vup (dig (val Lx * 2 ^ M))) := hn
      replace hx : Hid (Ls w21 vx (Lx)) := hx.out.kp hk
      replace HK : Hid (Kp w w21) := HK.out.trans hk
      clear hk hn
      have hP2 := pow2_sm M
      have Bup : Hid (Wd (dig (val Lx * 2 ^ M)) ∧ Sm (64 + (M / 32 + 1)) (val (dig (val Lx * 2 ^ M))) ∧ (dig (val Lx * 2 ^ M)).length ≤ 1048576) := digB2 (Sm.mul Bx.out.2.1 hP2) (by have := HM.out.1; omega)
      clear hP2
      obtain ⟨g2, hg2⟩ : ∃ g2, g2 = w21.heap.size := ⟨_, rfl⟩
      obtain ⟨wl, hwl⟩ : ∃ wl, wl = (w21).alloc (.cells #[.int .u32 2] 25) := ⟨_, rfl⟩
      have kpl : Kp w21 wl := by rw [hwl]; exact (Kp.refl _).alloc _
      have arl : Arr wl (some ⟨g2, 0, none⟩) [2] := by
        have h := (row1 w21 2).all rfl
        rw [← hwl] at h
        rw [show g2 = w21.heap.size from by exact hg2]
        exact h
      replace hx : Hid (Ls wl vx (Lx)) := hx.out.kp kpl
      replace hup : Hid (Ls wl vup (dig (val Lx * 2 ^ M))) := hup.out.kp kpl
      replace HK : Hid (Kp w wl) := HK.out.trans kpl
      have hc := fun zz hz => powLz2 (.slice (some ⟨g2, 0, none⟩) 1 1) [2] wl 1 M zz hz ⟨some ⟨g2, 0, none⟩, 1, rfl, arl, by simp⟩ (wd1 2 (by decide)) (show val [2] < 4294967296 ^ 1 from by decide) (by omega) (by omega) (by have := HM.out.1; omega) (by simp)
      rw [show val [2] = 2 from by decide] at hc
      clear kpl arl
      go_wp2_with fail
      rw [← hwl, ← hg2]
      refine (hc _ (by have h1 := HM.out; first | omega | (simp; omega))).mono ?_
      rintro e w22 ⟨vtw2, rfl, hn, hk⟩
      clear hc
      have htw2 : Hid (Ls w22 vtw2 (dig (2 ^ M))) := hn
      replace hx : Hid (Ls w22 vx (Lx)) := hx.out.kp hk
      replace hup : Hid (Ls w22 vup (dig (val Lx * 2 ^ M))) := hup.out.kp hk
      replace HK : Hid (Kp w w22) := HK.out.trans hk
      clear hk hn
      clear hwl hg2
      have Btw2 : Hid (Wd (dig (2 ^ M)) ∧ Sm (M / 32 + 1) (val (dig (2 ^ M))) ∧ (dig (2 ^ M)).length ≤ 1048576) := digB2 (pow2_sm M) (by have := HM.out.1; omega)
      have hc := mulL vx vtw2 Lx (dig (2 ^ M)) w22 64 (M / 32 + 1) hx.out htw2.out Bx.out.1 Btw2.out.1 Bx.out.2.1 Btw2.out.2.1 (by have := HM.out.1; omega) Bx.out.2.2 Btw2.out.2.2
      try simp only [val_dig] at hc
      go_wp2_with fail
      refine hc.mono ?_
      rintro e w23 ⟨vby, rfl, hn, hk⟩
      clear hc
      have hby : Hid (Ls w23 vby (dig (val Lx * 2 ^ M))) := hn
      replace hx : Hid (Ls w23 vx (Lx)) := hx.out.kp hk
      replace hup : Hid (Ls w23 vup (dig (val Lx * 2 ^ M))) := hup.out.kp hk
      replace htw2 : Hid (Ls w23 vtw2 (dig (2 ^ M))) := htw2.out.kp hk
      replace HK : Hid (Kp w w23) := HK.out.trans hk
      clear hk hn
      have hc := fun zz hz => shrL vup (dig (val Lx * 2 ^ M)) w23 M zz hz (HT.out.grown HK.out) hup.out Bup.out.1 (Nat.le_trans (Sm.len Bup.out.2.1) (by have := HM.out.1; omega)) HM.out.1 Bup.out.2.2
      rw [val_dig, (there_shr _ _).1, decide_eq_false (there_shr _ _).2] at hc
      go_wp2_with fail
      refine (hc _ (by have h1 := HM.out; first | omega | (simp; omega))).mono ?_
      rintro e w24 ⟨vdn, rfl, hn, hk⟩
      clear hc
      have hdn : Hid (Ls w24 vdn (dig (val Lx))) := hn
      replace hx : Hid (Ls w24 vx (Lx)) := hx.out.kp hk
      replace hup : Hid (Ls w24 vup (dig (val Lx * 2 ^ M))) := hup.out.kp hk
      replace htw2 : Hid (Ls w24 vtw2 (dig (2 ^ M))) := htw2.out.kp hk
      replace hby : Hid (Ls w24 vby (dig (val Lx * 2 ^ M))) := hby.out.kp hk
      replace HK : Hid (Kp w w24) := HK.out.trans hk
      clear hk hn
      have hc := sameL vup vby (dig (val Lx * 2 ^ M)) (dig (val Lx * 2 ^ M)) w24 hup.out hby.out rfl Bup.out.2.2
      try simp only [val_dig] at hc
      go_wp2_with fail
      refine hc.mono ?_
      rintro e w25 ⟨rfl, hk⟩
      clear hc
      replace hx : Hid (Ls w25 vx (Lx)) := hx.out.kp hk
      replace hup : Hid (Ls w25 vup (dig (val Lx * 2 ^ M))) := hup.out.kp hk
      replace htw2 : Hid (Ls w25 vtw2 (dig (2 ^ M))) := htw2.out.kp hk
      replace hby : Hid (Ls w25 vby (dig (val Lx * 2 ^ M))) := hby.out.kp hk
      replace hdn : Hid (Ls w25 vdn (dig (val Lx))) := hdn.out.kp hk
      replace HK : Hid (Kp w w25) := HK.out.trans hk
      clear hk
      have hc := normL vx Lx w25 hx.out Bx.out.1 Bx.out.2.2
      try simp only [val_dig] at hc
      go_wp2_with fail
      refine hc.mono ?_
      rintro e w26 ⟨vnx2, rfl, hn, hk⟩
      clear hc
      have hnx2 : Hid (Ls w26 vnx2 (dig (val Lx))) := hn
      replace hx : Hid (Ls w26 vx (Lx)) := hx.out.kp hk
      replace hup : Hid (Ls w26 vup (dig (val Lx * 2 ^ M))) := hup.out.kp hk
      replace htw2 : Hid (Ls w26 vtw2 (dig (2 ^ M))) := htw2.out.kp hk
      replace hby : Hid (Ls w26 vby (dig (val Lx * 2 ^ M))) := hby.out.kp hk
      replace hdn : Hid (Ls w26 vdn (dig (val Lx))) := hdn.out.kp hk
      replace HK : Hid (Kp w w26) := HK.out.trans hk
      clear hk hn
      have hc := sameL vdn vnx2 (dig (val Lx)) (dig (val Lx)) w26 hdn.out hnx2.out rfl (Nat.le_trans (Sm.len Bx.out.2.1) (by omega))
      try simp only [val_dig] at hc
      go_wp2_with fail
      refine hc.mono ?_
      rintro e w27 ⟨rfl, hk⟩
      clear hc
      replace hx : Hid (Ls w27 vx (Lx)) := hx.out.kp hk
      replace hup : Hid (Ls w27 vup (dig (val Lx * 2 ^ M))) := hup.out.kp hk
      replace htw2 : Hid (Ls w27 vtw2 (dig (2 ^ M))) := htw2.out.kp hk
      replace hby : Hid (Ls w27 vby (dig (val Lx * 2 ^ M))) := hby.out.kp hk
      replace hdn : Hid (Ls w27 vdn (dig (val Lx))) := hdn.out.kp hk
      replace hnx2 : Hid (Ls w27 vnx2 (dig (val Lx))) := hnx2.out.kp hk
      replace HK : Hid (Kp w w27) := HK.out.trans hk
      clear hk
      go_wp2
      exact bodyPost_ret (v := .bool true) (by simp [results, Tryd.results7, go_sem]) rfl ⟨rfl, HK.out⟩
  · obtain ⟨cc, hcc⟩ : ∃ cc, cc = cmpN (val L0) 0 := ⟨_, rfl⟩
    have hc0 : ¬ (cc = 0) := by rw [hcc, cmpN_gt (by omega)]; omega
    rw [← hcc] at hc
    have Y0 : Hid (val L0 ≠ 0) := cy
    clear cy hcc
    go_wp2_with fail
    refine hc.mono ?_
    rintro e w3 ⟨rfl, hk⟩
    clear hc
    replace hx : Hid (Ls w3 vx (Lx)) := hx.out.kp hk
    replace hy0 : Hid (Ls w3 vy0 (L0)) := hy0.out.kp hk
    replace HK : Hid (Kp w w3) := HK.out.trans hk
    clear hk
    obtain ⟨vy, hvy⟩ : ∃ vy, vy = vy0 := ⟨_, rfl⟩
    obtain ⟨Ly, hLy⟩ : ∃ Ly, Ly = L0 := ⟨_, rfl⟩
    subst hvy
    subst hLy
    have hy : Hid (Ls w3 vy Ly) := hy0
    have By : Hid (Wd Ly ∧ Sm 64 (val Ly) ∧ Ly.length ≤ 1048576) := By0
    clear hy0 By0
    have hc := mulL vx vy (Lx) Ly w3 64 64 hx.out hy.out Bx.out.1 By.out.1 Bx.out.2.1 By.out.2.1 (by omega) Bx.out.2.2 By.out.2.2
    try simp only [val_dig] at hc
    go_wp2_with fail
    refine hc.mono ?_
    rintro e w4 ⟨vp, rfl, hn, hk⟩
    clear hc
    have hp : Hid (Ls w4 vp (dig (val Lx * val Ly))) := hn
    replace hx : Hid (Ls w4 vx (Lx)) := hx.out.kp hk
    replace hy : Hid (Ls w4 vy Ly) := hy.out.kp hk
    replace HK : Hid (Kp w w4) := HK.out.trans hk
    clear hk hn
    have Bp : Hid (Wd (dig (val Lx * val Ly)) ∧ Sm (128) (val (dig (val Lx * val Ly))) ∧ (dig (val Lx * val Ly)).length ≤ 1048576) := digB2 (K := 128) (Sm.mul (by have h := Bx.out.2.1; first | (simp only [val_dig] at h; exact h) | exact h) (by have h := By.out.2.1; first | (simp only [val_dig] at h; exact h) | exact h)) (by omega)
    have hc := quoL vx vy Lx Ly w4 64 hx.out hy.out Bx.out.1 By.out.1 Bx.out.2.1 By.out.2.1 (by omega) Y0.out Bx.out.2.2 By.out.2.2
    try simp only [val_dig] at hc
    go_wp2_with fail
    refine hc.mono ?_
    rintro e w5 ⟨vq0, vr, rfl, hnA, hnB, hk⟩
    clear hc
    have hq0 : Hid (Ls w5 vq0 (dig (val Lx / val Ly))) := hnA
    have hr : Hid (Ls w5 vr (dig (val Lx % val Ly))) := hnB
    replace hx : Hid (Ls w5 vx (Lx)) := hx.out.kp hk
    replace hy : Hid (Ls w5 vy Ly) := hy.out.kp hk
    replace hp : Hid (Ls w5 vp (dig (val Lx * val Ly))) := hp.out.kp hk
    replace HK : Hid (Kp w w5) := HK.out.trans hk
    clear hk hnA hnB
    clear hq0
    have Br : Hid (Wd (dig (val Lx % val Ly)) ∧ Sm (64) (val (dig (val Lx % val Ly))) ∧ (dig (val Lx % val Ly)).length ≤ 1048576) := digB2 (K := 64) (Nat.lt_of_le_of_lt (Nat.mod_le _ _) Bx.out.2.1) (by omega)
    have hc := addL vp vr (dig (val Lx * val Ly)) (dig (val Lx % val Ly)) w5 128 hp.out hr.out Bp.out.1 Br.out.1 (Bp.out.2.1.mono (by omega)) (Br.out.2.1.mono (by omega)) (by omega) Bp.out.2.2 Br.out.2.2
    try simp only [val_dig] at hc
    go_wp2_with fail
    refine hc.mono ?_
    rintro e w6 ⟨va, rfl, hn, hk⟩
    clear hc
    have ha : Hid (Ls w6 va (dig (val Lx * val Ly + val Lx % val Ly))) := hn
    replace hx : Hid (Ls w6 vx (Lx)) := hx.out.kp hk
    replace hy : Hid (Ls w6 vy Ly) := hy.out.kp hk
    replace hp : Hid (Ls w6 vp (dig (val Lx * val Ly))) := hp.out.kp hk
    replace hr : Hid (Ls w6 vr (dig (val Lx % val Ly))) := hr.out.kp hk
    replace HK : Hid (Kp w w6) := HK.out.trans hk
    clear hk hn
    have Ba : Hid (Wd (dig (val Lx * val Ly + val Lx % val Ly)) ∧ Sm (129) (val (dig (val Lx * val Ly + val Lx % val Ly))) ∧ (dig (val Lx * val Ly + val Lx % val Ly)).length ≤ 1048576) := digB2 (K := 129) (Sm.add (Sm.mono (by have h := Bp.out.2.1; first | (simp only [val_dig] at h; exact h) | exact h) (by omega)) (Sm.mono (by have h := Br.out.2.1; first | (simp only [val_dig] at h; exact h) | exact h) (by omega))) (by omega)
    have hc := quoL va vy (dig (val Lx * val Ly + val Lx % val Ly)) Ly w6 129 ha.out hy.out Ba.out.1 By.out.1 Ba.out.2.1 (By.out.2.1.mono (by omega)) (by omega) Y0.out Ba.out.2.2 By.out.2.2
    try simp only [val_dig] at hc
    go_wp2_with fail
    refine hc.mono ?_
    rintro e w7 ⟨vu, vv, rfl, hnA, hnB, hk⟩
    clear hc
    have hu : Hid (Ls w7 vu (dig ((val Lx * val Ly + val Lx % val Ly) / val Ly))) := hnA
    have hv : Hid (Ls w7 vv (dig ((val Lx * val Ly + val Lx % val Ly) % val Ly))) := hnB
    replace hx : Hid (Ls w7 vx (Lx)) := hx.out.kp hk
    replace hy : Hid (Ls w7 vy Ly) := hy.out.kp hk
    replace hp : Hid (Ls w7 vp (dig (val Lx * val Ly))) := hp.out.kp hk
    replace hr : Hid (Ls w7 vr (dig (val Lx % val Ly))) := hr.out.kp hk
    replace ha : Hid (Ls w7 va (dig (val Lx * val Ly + val Lx % val Ly))) := ha.out.kp hk
    replace HK : Hid (Kp w w7) := HK.out.trans hk
    clear hk hnA hnB
    have hc := cmpL vr vy (dig (val Lx % val Ly)) Ly w7 hr.out hy.out Br.out.1 By.out.1 Br.out.2.2 By.out.2.2
    rw [val_dig, cmpN_lt (Nat.mod_lt _ (Nat.pos_of_ne_zero Y0.out))] at hc
    go_wp2_with fail
    refine hc.mono ?_
    rintro e w8 ⟨rfl, hk⟩
    clear hc
    replace hx : Hid (Ls w8 vx (Lx)) := hx.out.kp hk
    replace hy : Hid (Ls w8 vy Ly) := hy.out.kp hk
    replace hp : Hid (Ls w8 vp (dig (val Lx * val Ly))) := hp.out.kp hk
    replace hr : Hid (Ls w8 vr (dig (val Lx % val Ly))) := hr.out.kp hk
    replace ha : Hid (Ls w8 va (dig (val Lx * val Ly + val Lx % val Ly))) := ha.out.kp hk
    replace hu : Hid (Ls w8 vu (dig ((val Lx * val Ly + val Lx % val Ly) / val Ly))) := hu.out.kp hk
    replace hv : Hid (Ls w8 vv (dig ((val Lx * val Ly + val Lx % val Ly) % val Ly))) := hv.out.kp hk
    replace HK : Hid (Kp w w8) := HK.out.trans hk
    clear hk
    have hc := lives_ w8
    try simp only [val_dig] at hc
    go_wp2_with fail
    refine hc.mono ?_
    rintro e w9 ⟨rfl, hk⟩
    clear hc
    replace hx : Hid (Ls w9 vx (Lx)) := hx.out.kp hk
    replace hy : Hid (Ls w9 vy Ly) := hy.out.kp hk
    replace hp : Hid (Ls w9 vp (dig (val Lx * val Ly))) := hp.out.kp hk
    replace hr : Hid (Ls w9 vr (dig (val Lx % val Ly))) := hr.out.kp hk
    replace ha : Hid (Ls w9 va (dig (val Lx * val Ly + val Lx % val Ly))) := ha.out.kp hk
    replace hu : Hid (Ls w9 vu (dig ((val Lx * val Ly + val Lx % val Ly) / val Ly))) := hu.out.kp hk
    replace hv : Hid (Ls w9 vv (dig ((val Lx * val Ly + val Lx % val Ly) % val Ly))) := hv.out.kp hk
    replace HK : Hid (Kp w w9) := HK.out.trans hk
    clear hk
    have hc := normL vx Lx w9 hx.out Bx.out.1 Bx.out.2.2
    try simp only [val_dig] at hc
    go_wp2_with fail
    refine hc.mono ?_
    rintro e w10 ⟨vnx, rfl, hn, hk⟩
    clear hc
    have hnx : Hid (Ls w10 vnx (dig (val Lx))) := hn
    replace hx : Hid (Ls w10 vx (Lx)) := hx.out.kp hk
    replace hy : Hid (Ls w10 vy Ly) := hy.out.kp hk
    replace hp : Hid (Ls w10 vp (dig (val Lx * val Ly))) := hp.out.kp hk
    replace hr : Hid (Ls w10 vr (dig (val Lx % val Ly))) := hr.out.kp hk
    replace ha : Hid (Ls w10 va (dig (val Lx * val Ly + val Lx % val Ly))) := ha.out.kp hk
    replace hu : Hid (Ls w10 vu (dig ((val Lx * val Ly + val Lx % val Ly) / val Ly))) := hu.out.kp hk
    replace hv : Hid (Ls w10 vv (dig ((val Lx * val Ly + val Lx % val Ly) % val Ly))) := hv.out.kp hk
    replace HK : Hid (Kp w w10) := HK.out.trans hk
    clear hk hn
    have hc := sameL vu vnx (dig ((val Lx * val Ly + val Lx % val Ly) / val Ly)) (dig (val Lx)) w10 hu.out hnx.out (by rw [(there_quo _ _ (Nat.pos_of_ne_zero Y0.out)).1]) (by rw [(there_quo _ _ (Nat.pos_of_ne_zero Y0.out)).1]; exact Nat.le_trans (Sm.len Bx.out.2.1) (by omega))
    try simp only [val_dig] at hc
    go_wp2_with fail
    refine hc.mono ?_
    rintro e w11 ⟨rfl, hk⟩
    clear hc
    replace hx : Hid (Ls w11 vx (Lx)) := hx.out.kp hk
    replace hy : Hid (Ls w11 vy Ly) := hy.out.kp hk
    replace hp : Hid (Ls w11 vp (dig (val Lx * val Ly))) := hp.out.kp hk
    replace hr : Hid (Ls w11 vr (dig (val Lx % val Ly))) := hr.out.kp hk
    replace ha : Hid (Ls w11 va (dig (val Lx * val Ly + val Lx % val Ly))) := ha.out.kp hk
    replace hu : Hid (Ls w11 vu (dig ((val Lx * val Ly + val Lx % val Ly) / val Ly))) := hu.out.kp hk
    replace hv : Hid (Ls w11 vv (dig ((val Lx * val Ly + val Lx % val Ly) % val Ly))) := hv.out.kp hk
    replace hnx : Hid (Ls w11 vnx (dig (val Lx))) := hnx.out.kp hk
    replace HK : Hid (Kp w w11) := HK.out.trans hk
    clear hk
    have hc := sameL vv vr (dig ((val Lx * val Ly + val Lx % val Ly) % val Ly)) (dig (val Lx % val Ly)) w11 hv.out hr.out (by rw [(there_quo _ _ (Nat.pos_of_ne_zero Y0.out)).2]) (by rw [(there_quo _ _ (Nat.pos_of_ne_zero Y0.out)).2]; exact Br.out.2.2)
    try simp only [val_dig] at hc
    go_wp2_with fail
    refine hc.mono ?_
    rintro e w12 ⟨rfl, hk⟩
    clear hc
    replace hx : Hid (Ls w12 vx (Lx)) := hx.out.kp hk
    replace hy : Hid (Ls w12 vy Ly) := hy.out.kp hk
    replace hp : Hid (Ls w12 vp (dig (val Lx * val Ly))) := hp.out.kp hk
    replace hr : Hid (Ls w12 vr (dig (val Lx % val Ly))) := hr.out.kp hk
    replace ha : Hid (Ls w12 va (dig (val Lx * val Ly + val Lx % val Ly))) := ha.out.kp hk
    replace hu : Hid (Ls w12 vu (dig ((val Lx * val Ly + val Lx % val Ly) / val Ly))) := hu.out.kp hk
    replace hv : Hid (Ls w12 vv (dig ((val Lx * val Ly + val Lx % val Ly) % val Ly))) := hv.out.kp hk
    replace hnx : Hid (Ls w12 vnx (dig (val Lx))) := hnx.out.kp hk
    replace HK : Hid (Kp w w12) := HK.out.trans hk
    clear hk
    clear hp
    clear hr
    clear ha
    clear hu
    clear hv
    clear hnx
    have hc := mulL vy vy Ly Ly w12 64 64 hy.out hy.out By.out.1 By.out.1 By.out.2.1 By.out.2.1 (by omega) By.out.2.2 By.out.2.2
    try simp only [val_dig] at hc
    go_wp2_with fail
    refine hc.mono ?_
    rintro e w13 ⟨vsq, rfl, hn, hk⟩
    clear hc
    have hsq : Hid (Ls w13 vsq (dig (val Ly * val Ly))) := hn
    replace hx : Hid (Ls w13 vx (Lx)) := hx.out.kp hk
    replace hy : Hid (Ls w13 vy Ly) := hy.out.kp hk
    replace HK : Hid (Kp w w13) := HK.out.trans hk
    clear hk hn
    have Bsq : Hid (Wd (dig (val Ly * val Ly)) ∧ Sm (128) (val (dig (val Ly * val Ly))) ∧ (dig (val Ly * val Ly)).length ≤ 1048576) := digB2 (K := 128) (Sm.mul (by have h := By.out.2.1; first | (simp only [val_dig] at h; exact h) | exact h) (by have h := By.out.2.1; first | (simp only [val_dig] at h; exact h) | exact h)) (by omega)
    have hc := addL vy vy Ly Ly w13 64 hy.out hy.out By.out.1 By.out.1 (By.out.2.1.mono (by omega)) (By.out.2.1.mono (by omega)) (by omega) By.out.2.2 By.out.2.2
    try simp only [val_dig] at hc
    go_wp2_with fail
    refine hc.mono ?_
    rintro e w14 ⟨vtw, rfl, hn, hk⟩
    clear hc
    have htw : Hid (Ls w14 vtw (dig (val Ly + val Ly))) := hn
    replace hx : Hid (Ls w14 vx (Lx)) := hx.out.kp hk
    replace hy : Hid (Ls w14 vy Ly) := hy.out.kp hk
    replace hsq : Hid (Ls w14 vsq (dig (val Ly * val Ly))) := hsq.out.kp hk
    replace HK : Hid (Kp w w14) := HK.out.trans hk
    clear hk hn
    have Btw : Hid (Wd (dig (val Ly + val Ly)) ∧ Sm (65) (val (dig (val Ly + val Ly))) ∧ (dig (val Ly + val Ly)).length ≤ 1048576) := digB2 (K := 65) (Sm.add (Sm.mono (by have h := By.out.2.1; first | (simp only [val_dig] at h; exact h) | exact h) (by omega)) (Sm.mono (by have h := By.out.2.1; first | (simp only [val_dig] at h; exact h) | exact h) (by omega))) (by omega)
    have hc := addL vsq vtw (dig (val Ly * val Ly)) (dig (val Ly + val Ly)) w14 128 hsq.out htw.out Bsq.out.1 Btw.out.1 (Bsq.out.2.1.mono (by omega)) (Btw.out.2.1.mono (by omega)) (by omega) Bsq.out.2.2 Btw.out.2.2
    try simp only [val_dig] at hc
    go_wp2_with fail
    refine hc.mono ?_
    rintro e w15 ⟨vov, rfl, hn, hk⟩
    clear hc
    have hov : Hid (Ls w15 vov (dig (val Ly * val Ly + (val Ly + val Ly)))) := hn
    replace hx : Hid (Ls w15 vx (Lx)) := hx.out.kp hk
    replace hy : Hid (Ls w15 vy Ly) := hy.out.kp hk
    replace hsq : Hid (Ls w15 vsq (dig (val Ly * val Ly))) := hsq.out.kp hk
    replace htw : Hid (Ls w15 vtw (dig (val Ly + val Ly))) := htw.out.kp hk
    replace HK : Hid (Kp w w15) := HK.out.trans hk
    clear hk hn
    have Bov : Hid (Wd (dig (val Ly * val Ly + (val Ly + val Ly))) ∧ Sm (129) (val (dig (val Ly * val Ly + (val Ly + val Ly)))) ∧ (dig (val Ly * val Ly + (val Ly + val Ly))).length ≤ 1048576) := digB2 (K := 129) (Sm.add (Sm.mono (by have h := Bsq.out.2.1; first | (simp only [val_dig] at h; exact h) | exact h) (by omega)) (Sm.mono (by have h := Btw.out.2.1; first | (simp only [val_dig] at h; exact h) | exact h) (by omega))) (by omega)
    have hc := rootL vsq (dig (val Ly * val Ly)) (val Ly) w15 128 hsq.out Bsq.out.1 Bsq.out.2.1 (by omega) Bsq.out.2.2 (by rw [val_dig]; exact there_sq _)
    rw [val_dig] at hc
    rw [decide_eq_true rfl] at hc
    go_wp2_with fail
    refine hc.mono ?_
    rintro e w16 ⟨vs, rfl, hn, hk⟩
    clear hc
    have hs : Hid (Ls w16 vs (dig (val Ly))) := hn
    replace hx : Hid (Ls w16 vx (Lx)) := hx.out.kp hk
    replace hy : Hid (Ls w16 vy Ly) := hy.out.kp hk
    replace hsq : Hid (Ls w16 vsq (dig (val Ly * val Ly))) := hsq.out.kp hk
    replace htw : Hid (Ls w16 vtw (dig (val Ly + val Ly))) := htw.out.kp hk
    replace hov : Hid (Ls w16 vov (dig (val Ly * val Ly + (val Ly + val Ly)))) := hov.out.kp hk
    replace HK : Hid (Kp w w16) := HK.out.trans hk
    clear hk hn
    have hc := rootL vov (dig (val Ly * val Ly + (val Ly + val Ly))) (val Ly) w16 129 hov.out Bov.out.1 Bov.out.2.1 (by omega) Bov.out.2.2 (by rw [val_dig]; exact there_over _)
    rw [val_dig] at hc
    rw [decide_eq_false (by have := Y0.out; omega)] at hc
    go_wp2_with fail
    refine hc.mono ?_
    rintro e w17 ⟨vt, rfl, hn, hk⟩
    clear hc
    have ht : Hid (Ls w17 vt (dig (val Ly))) := hn
    replace hx : Hid (Ls w17 vx (Lx)) := hx.out.kp hk
    replace hy : Hid (Ls w17 vy Ly) := hy.out.kp hk
    replace hsq : Hid (Ls w17 vsq (dig (val Ly * val Ly))) := hsq.out.kp hk
    replace htw : Hid (Ls w17 vtw (dig (val Ly + val Ly))) := htw.out.kp hk
    replace hov : Hid (Ls w17 vov (dig (val Ly * val Ly + (val Ly + val Ly)))) := hov.out.kp hk
    replace hs : Hid (Ls w17 vs (dig (val Ly))) := hs.out.kp hk
    replace HK : Hid (Kp w w17) := HK.out.trans hk
    clear hk hn
    have hc := normL vy Ly w17 hy.out By.out.1 By.out.2.2
    try simp only [val_dig] at hc
    go_wp2_with fail
    refine hc.mono ?_
    rintro e w18 ⟨vny, rfl, hn, hk⟩
    clear hc
    have hny : Hid (Ls w18 vny (dig (val Ly))) := hn
    replace hx : Hid (Ls w18 vx (Lx)) := hx.out.kp hk
    replace hy : Hid (Ls w18 vy Ly) := hy.out.kp hk
    replace hsq : Hid (Ls w18 vsq (dig (val Ly * val Ly))) := hsq.out.kp hk
    replace htw : Hid (Ls w18 vtw (dig (val Ly + val Ly))) := htw.out.kp hk
    replace hov : Hid (Ls w18 vov (dig (val Ly * val Ly + (val Ly + val Ly)))) := hov.out.kp hk
    replace hs : Hid (Ls w18 vs (dig (val Ly))) := hs.out.kp hk
    replace ht : Hid (Ls w18 vt (dig (val Ly))) := ht.out.kp hk
    replace HK : Hid (Kp w w18) := HK.out.trans hk
    clear hk hn
    have hc := sameL vs vny (dig (val Ly)) (dig (val Ly)) w18 hs.out hny.out rfl (Nat.le_trans (Sm.len By.out.2.1) (by omega))
    try simp only [val_dig] at hc
    go_wp2_with fail
    refine hc.mono ?_
    rintro e w19 ⟨rfl, hk⟩
    clear hc
    replace hx : Hid (Ls w19 vx (Lx)) := hx.out.kp hk
    replace hy : Hid (Ls w19 vy Ly) := hy.out.kp hk
    replace hsq : Hid (Ls w19 vsq (dig (val Ly * val Ly))) := hsq.out.kp hk
    replace htw : Hid (Ls w19 vtw (dig (val Ly + val Ly))) := htw.out.kp hk
    replace hov : Hid (Ls w19 vov (dig (val Ly * val Ly + (val Ly + val Ly)))) := hov.out.kp hk
    replace hs : Hid (Ls w19 vs (dig (val Ly))) := hs.out.kp hk
    replace ht : Hid (Ls w19 vt (dig (val Ly))) := ht.out.kp hk
    replace hny : Hid (Ls w19 vny (dig (val Ly))) := hny.out.kp hk
    replace HK : Hid (Kp w w19) := HK.out.trans hk
    clear hk
    have hc := sameL vt vs (dig (val Ly)) (dig (val Ly)) w19 ht.out hs.out rfl (Nat.le_trans (Sm.len By.out.2.1) (by omega))
    try simp only [val_dig] at hc
    go_wp2_with fail
    refine hc.mono ?_
    rintro e w20 ⟨rfl, hk⟩
    clear hc
    replace hx : Hid (Ls w20 vx (Lx)) := hx.out.kp hk
    replace hy : Hid (Ls w20 vy Ly) := hy.out.kp hk
    replace hsq : Hid (Ls w20 vsq (dig (val Ly * val Ly))) := hsq.out.kp hk
    replace htw : Hid (Ls w20 vtw (dig (val Ly + val Ly))) := htw.out.kp hk
    replace hov : Hid (Ls w20 vov (dig (val Ly * val Ly + (val Ly + val Ly)))) := hov.out.kp hk
    replace hs : Hid (Ls w20 vs (dig (val Ly))) := hs.out.kp hk
    replace ht : Hid (Ls w20 vt (dig (val Ly))) := ht.out.kp hk
    replace hny : Hid (Ls w20 vny (dig (val Ly))) := hny.out.kp hk
    replace HK : Hid (Kp w w20) := HK.out.trans hk
    clear hk
    clear hsq
    clear htw
    clear hov
    clear hs
    clear ht
    clear hny
    clear hy
    have a2 : (¬ z < 0 ∧ ¬ 4000 < z) ∨ z < 0 ∨ (¬ z < 0 ∧ 4000 < z) := by omega
    rcases a2 with ⟨d1, d2⟩ | d1 | ⟨d1, d2⟩
    all_goals
      have hc := fun zz hz => shlL vx Lx w20 M zz hz hx.out Bx.out.1 Bx.out.2.1 HM.out.1 Bx.out.2.2
      go_wp2_with fail
      refine (hc _ (by have h1 := HM.out; first | omega | (simp; omega))).mono ?_
      rintro e w21 ⟨vup, rfl, hn, hk⟩
      clear hc
      have hup : Hid (Ls w21 vup (dig (val Lx * 2 ^ M))) := hn
      replace hx : Hid (Ls w21 vx (Lx)) := hx.out.kp hk
      replace HK : Hid (Kp w w21) := HK.out.trans hk
      clear hk hn
      have hP2 := pow2_sm M
      have Bup : Hid (Wd (dig (val Lx * 2 ^ M)) ∧ Sm (64 + (M / 32 + 1)) (val (dig (val Lx * 2 ^ M))) ∧ (dig (val Lx * 2 ^ M)).length ≤ 1048576) := digB2 (Sm.mul Bx.out.2.1 hP2) (by have := HM.out.1; omega)
      clear hP2
      obtain ⟨g2, hg2⟩ : ∃ g2, g2 = w21.heap.size := ⟨_, rfl⟩
      obtain ⟨wl, hwl⟩ : ∃ wl, wl = (w21).alloc (.cells #[.int .u32 2] 25) := ⟨_, rfl⟩
      have kpl : Kp w21 wl := by rw [hwl]; exact (Kp.refl _).alloc _
      have arl : Arr wl (some ⟨g2, 0, none⟩) [2] := by
        have h := (row1 w21 2).all rfl
        rw [← hwl] at h
        rw [show g2 = w21.heap.size from by exact hg2]
        exact h
      replace hx : Hid (Ls wl vx (Lx)) := hx.out.kp kpl
      replace hup : Hid (Ls wl vup (dig (val Lx * 2 ^ M))) := hup.out.kp kpl
      replace HK : Hid (Kp w wl) := HK.out.trans kpl
      have hc := fun zz hz => powLz2 (.slice (some ⟨g2, 0, none⟩) 1 1) [2] wl 1 M zz hz ⟨some ⟨g2, 0, none⟩, 1, rfl, arl, by simp⟩ (wd1 2 (by decide)) (show val [2] < 4294967296 ^ 1 from by decide) (by omega) (by omega) (by have := HM.out.1; omega) (by simp)
      rw [show val [2] = 2 from by decide] at hc
      clear kpl arl
      go_wp2_with fail
      rw [← hwl, ← hg2]
      refine (hc _ (by have h1 := HM.out; first | omega | (simp; omega))).mono ?_
      rintro e w22 ⟨vtw2, rfl, hn, hk⟩
      clear hc
      have htw2 : Hid (Ls w22 vtw2 (dig (2 ^ M))) := hn
      replace hx : Hid (Ls w22 vx (Lx)) := hx.out.kp hk
      replace hup : Hid (Ls w22 vup (dig (val Lx * 2 ^ M))) := hup.out.kp hk
      replace HK : Hid (Kp w w22) := HK.out.trans hk
      clear hk hn
      clear hwl hg2
      have Btw2 : Hid (Wd (dig (2 ^ M)) ∧ Sm (M / 32 + 1) (val (dig (2 ^ M))) ∧ (dig (2 ^ M)).length ≤ 1048576) := digB2 (pow2_sm M) (by have := HM.out.1; omega)
      have hc := mulL vx vtw2 Lx (dig (2 ^ M)) w22 64 (M / 32 + 1) hx.out htw2.out Bx.out.1 Btw2.out.1 Bx.out.2.1 Btw2.out.2.1 (by have := HM.out.1; omega) Bx.out.2.2 Btw2.out.2.2
      try simp only [val_dig] at hc
      go_wp2_with fail
      refine hc.mono ?_
      rintro e w23 ⟨vby, rfl, hn, hk⟩
      clear hc
      have hby : Hid (Ls w23 vby (dig (val Lx * 2 ^ M))) := hn
      replace hx : Hid (Ls w23 vx (Lx)) := hx.out.kp hk
      replace hup : Hid (Ls w23 vup (dig (val Lx * 2 ^ M))) := hup.out.kp hk
      replace htw2 : Hid (Ls w23 vtw2 (dig (2 ^ M))) := htw2.out.kp hk
      replace HK : Hid (Kp w w23) := HK.out.trans hk
      clear hk hn
      have hc := fun zz hz => shrL vup (dig (val Lx * 2 ^ M)) w23 M zz hz (HT.out.grown HK.out) hup.out Bup.out.1 (Nat.le_trans (Sm.len Bup.out.2.1) (by have := HM.out.1; omega)) HM.out.1 Bup.out.2.2
      rw [val_dig, (there_shr _ _).1, decide_eq_false (there_shr _ _).2] at hc
      go_wp2_with fail
      refine (hc _ (by have h1 := HM.out; first | omega | (simp; omega))).mono ?_
      rintro e w24 ⟨vdn, rfl, hn, hk⟩
      clear hc
      have hdn : Hid (Ls w24 vdn (dig (val Lx))) := hn
      replace hx : Hid (Ls w24 vx (Lx)) := hx.out.kp hk
      replace hup : Hid (Ls w24 vup (dig (val Lx * 2 ^ M))) := hup.out.kp hk
      replace htw2 : Hid (Ls w24 vtw2 (dig (2 ^ M))) := htw2.out.kp hk
      replace hby : Hid (Ls w24 vby (dig (val Lx * 2 ^ M))) := hby.out.kp hk
      replace HK : Hid (Kp w w24) := HK.out.trans hk
      clear hk hn
      have hc := sameL vup vby (dig (val Lx * 2 ^ M)) (dig (val Lx * 2 ^ M)) w24 hup.out hby.out rfl Bup.out.2.2
      try simp only [val_dig] at hc
      go_wp2_with fail
      refine hc.mono ?_
      rintro e w25 ⟨rfl, hk⟩
      clear hc
      replace hx : Hid (Ls w25 vx (Lx)) := hx.out.kp hk
      replace hup : Hid (Ls w25 vup (dig (val Lx * 2 ^ M))) := hup.out.kp hk
      replace htw2 : Hid (Ls w25 vtw2 (dig (2 ^ M))) := htw2.out.kp hk
      replace hby : Hid (Ls w25 vby (dig (val Lx * 2 ^ M))) := hby.out.kp hk
      replace hdn : Hid (Ls w25 vdn (dig (val Lx))) := hdn.out.kp hk
      replace HK : Hid (Kp w w25) := HK.out.trans hk
      clear hk
      have hc := normL vx Lx w25 hx.out Bx.out.1 Bx.out.2.2
      try simp only [val_dig] at hc
      go_wp2_with fail
      refine hc.mono ?_
      rintro e w26 ⟨vnx2, rfl, hn, hk⟩
      clear hc
      have hnx2 : Hid (Ls w26 vnx2 (dig (val Lx))) := hn
      replace hx : Hid (Ls w26 vx (Lx)) := hx.out.kp hk
      replace hup : Hid (Ls w26 vup (dig (val Lx * 2 ^ M))) := hup.out.kp hk
      replace htw2 : Hid (Ls w26 vtw2 (dig (2 ^ M))) := htw2.out.kp hk
      replace hby : Hid (Ls w26 vby (dig (val Lx * 2 ^ M))) := hby.out.kp hk
      replace hdn : Hid (Ls w26 vdn (dig (val Lx))) := hdn.out.kp hk
      replace HK : Hid (Kp w w26) := HK.out.trans hk
      clear hk hn
      have hc := sameL vdn vnx2 (dig (val Lx)) (dig (val Lx)) w26 hdn.out hnx2.out rfl (Nat.le_trans (Sm.len Bx.out.2.1) (by omega))
      try simp only [val_dig] at hc
      go_wp2_with fail
      refine hc.mono ?_
      rintro e w27 ⟨rfl, hk⟩
      clear hc
      replace hx : Hid (Ls w27 vx (Lx)) := hx.out.kp hk
      replace hup : Hid (Ls w27 vup (dig (val Lx * 2 ^ M))) := hup.out.kp hk
      replace htw2 : Hid (Ls w27 vtw2 (dig (2 ^ M))) := htw2.out.kp hk
      replace hby : Hid (Ls w27 vby (dig (val Lx * 2 ^ M))) := hby.out.kp hk
      replace hdn : Hid (Ls w27 vdn (dig (val Lx))) := hdn.out.kp hk
      replace hnx2 : Hid (Ls w27 vnx2 (dig (val Lx))) := hnx2.out.kp hk
      replace HK : Hid (Kp w w27) := HK.out.trans hk
      clear hk
      go_wp2
      exact bodyPost_ret (v := .bool true) (by simp [results, Tryd.results7, go_sem]) rfl ⟨rfl, HK.out⟩
end Go.Proofs.YtkjcnnjgaififaaDoor
