import Derived.Test.YtaamimpanpgifaaProg
import Derived.Test.YtaamimpanpgifaaKA
import Derived.Test.YtaamimpanpgifaaKA2
import Derived.Test.YtaamimpanpgifaaKA3
import Derived.Test.YtaamimpanpgifaaKA4
import Derived.Test.YtaamimpanpgifaaKXM
import Derived.Test.YtaamimpanpgifaaKXT
import Derived.Test.YtaamimpanpgifaaKA5
import Derived.Test.YtaamimpanpgifaaKAT
import Derived.Test.YtaamimpanpgifaaKLB
import Derived.Test.YtaamimpanpgifaaKLN
import Derived.Test.YtaamimpanpgifaaKPR
import Derived.Test.YtaamimpanpgifaaKSL
import Derived.Test.YtaamimpanpgifaaKSR
import Derived.Test.YtaamimpanpgifaaKNF
import Derived.Test.YtaamimpanpgifaaKXQ
import Derived.Test.YtaamimpanpgifaaKTO
import Derived.Test.YtaamimpanpgifaaKHB
import Derived.Test.YtaamimpanpgifaaKBW
import Derived.Test.YtaamimpanpgifaaKNSm
import Derived.Test.YtaamimpanpgifaaKW4
import Derived.Test.YtaamimpanpgifaaKRW
import Derived.Test.YtaamimpanpgifaaKNA
import Derived.Test.YtaamimpanpgifaaKNS
import Derived.Test.YtaamimpanpgifaaKNM
import Derived.Test.YtaamimpanpgifaaKNPw
import Derived.Test.YtaamimpanpgifaaKXS
import Derived.Test.YtaamimpanpgifaaKLI
import Derived.Test.YtaamimpanpgifaaKLS
import Derived.WalkKit
import Derived.ProofKit
import Derived.RowKit3
import Derived.WalkSpells
import Derived.StillTactics
import Derived.Deep.QuietTactic
import Derived.BigQuiet
import Derived.Below
import Derived.Deep.OwnRows
import Derived.OwnWalk
namespace Go.Proofs.Ytaamimpanpgifaa
open Go.RowKit
theorem digB {K n : Nat} (h : Sm K n) (hk : K ≤ 1048576) : Wd (dig n) ∧ Sm K (val (dig n)) ∧ (dig n).length ≤ 1048576 := ⟨Wd_dig n, by rw [val_dig]; exact h, Nat.le_trans h.len hk⟩
theorem takeB (xs : List Int) (h : Wd xs) (K : Nat) (hk : K ≤ 1048576) : Wd (xs.take K) ∧ Sm K (val (xs.take K)) ∧ (xs.take K).length ≤ 1048576 := ⟨h.take K, (Sm.val (h.take K)).mono (by rw [List.length_take]; omega), by rw [List.length_take]; omega⟩
set_option maxRecDepth 20000 in
set_option maxHeartbeats 2000000 in
theorem ring_ (pa pb pc : Option Addr) (ca cb cc : Nat) (xs ys zs : List Int) (w : World) (hx0 : Arr w pa xs) (hy0 : Arr w pb ys) (hz0 : Arr w pc zs) (hwx : Wd xs) (hwy : Wd ys) (hwz : Wd zs) (lx : xs.length ≤ 1048576) (ly : ys.length ≤ 1048576) (lz : zs.length ≤ 1048576) :
    Calls Try.prog 3 #[.slice pa xs.length ca, .slice pb ys.length cb, .slice pc zs.length cc] w fun e w' => e = .returned (.bool true) ∧ Kp w w' := by
  have s1 := short_ pa ca 64 xs w hx0 lx
  have s2 := fun w' h => short_ pb cb 64 ys w' (hy0.grown h) ly
  have s3 := fun w' h => short_ pc cc 64 zs w' (hz0.grown h) lz
  have Bx : Hid (Wd (xs.take 64) ∧ Sm 64 (val (xs.take 64)) ∧ (xs.take 64).length ≤ 1048576) := takeB xs hwx 64 (by omega)
  have By : Hid (Wd (ys.take 64) ∧ Sm 64 (val (ys.take 64)) ∧ (ys.take 64).length ≤ 1048576) := takeB ys hwy 64 (by omega)
  have Bz : Hid (Wd (zs.take 64) ∧ Sm 64 (val (zs.take 64)) ∧ (zs.take 64).length ≤ 1048576) := takeB zs hwz 64 (by omega)
  obtain ⟨N, hN⟩ : ∃ N, N = xs.length := ⟨_, rfl⟩
  obtain ⟨M, hM⟩ : ∃ M, M = ys.length := ⟨_, rfl⟩
  obtain ⟨O, hO⟩ : ∃ O, O = zs.length := ⟨_, rfl⟩
  rw [← hN] at s1
  rw [← hM] at s2
  rw [← hO] at s3
  rw [← hN, ← hM, ← hO]
  obtain ⟨Lx, hLx⟩ : ∃ Lx, Lx = xs.take 64 := ⟨_, rfl⟩
  obtain ⟨Ly, hLy⟩ : ∃ Ly, Ly = ys.take 64 := ⟨_, rfl⟩
  obtain ⟨Lz, hLz⟩ : ∃ Lz, Lz = zs.take 64 := ⟨_, rfl⟩
  rw [← hLx] at s1 Bx
  rw [← hLy] at s2 By
  rw [← hLz] at s3 Bz
  clear hx0 hy0 hz0 hwx hwy hwz lx ly lz hN hM hO hLx hLy hLz
  have HK : Hid (Kp w w) := Kp.refl w
  go_enter Try.func3, Try.ntmps3
  have hc := s1
  try simp only [val_dig] at hc
  go_wp2_with fail
  refine hc.mono ?_
  rintro e w1 ⟨vx, rfl, hn, hk⟩
  clear hc
  have hx : Hid (Ls w1 vx (Lx)) := hn
  replace HK : Hid (Kp w w1) := HK.out.trans hk
  clear hk hn
  clear s1
  have hc := s2 w1 HK.out
  try simp only [val_dig] at hc
  go_wp2_with fail
  refine hc.mono ?_
  rintro e w2 ⟨vy, rfl, hn, hk⟩
  clear hc
  have hy : Hid (Ls w2 vy (Ly)) := hn
  replace hx : Hid (Ls w2 vx (Lx)) := hx.out.kp hk
  replace HK : Hid (Kp w w2) := HK.out.trans hk
  clear hk hn
  clear s2
  have hc := s3 w2 HK.out
  try simp only [val_dig] at hc
  go_wp2_with fail
  refine hc.mono ?_
  rintro e w3 ⟨vz, rfl, hn, hk⟩
  clear hc
  have hz : Hid (Ls w3 vz (Lz)) := hn
  replace hx : Hid (Ls w3 vx (Lx)) := hx.out.kp hk
  replace hy : Hid (Ls w3 vy (Ly)) := hy.out.kp hk
  replace HK : Hid (Kp w w3) := HK.out.trans hk
  clear hk hn
  clear s3
  have hc := addL vx vy (Lx) (Ly) w3 64 hx.out hy.out Bx.out.1 By.out.1 (Bx.out.2.1.mono (by omega)) (By.out.2.1.mono (by omega)) (by omega) Bx.out.2.2 By.out.2.2
  try simp only [val_dig] at hc
  go_wp2_with fail
  refine hc.mono ?_
  rintro e w4 ⟨vs, rfl, hn, hk⟩
  clear hc
  have hs : Hid (Ls w4 vs (dig (val Lx + val Ly))) := hn
  replace hx : Hid (Ls w4 vx (Lx)) := hx.out.kp hk
  replace hy : Hid (Ls w4 vy (Ly)) := hy.out.kp hk
  replace hz : Hid (Ls w4 vz (Lz)) := hz.out.kp hk
  replace HK : Hid (Kp w w4) := HK.out.trans hk
  clear hk hn
  have Bs : Hid (Wd (dig (val Lx + val Ly)) ∧ Sm 65 (val (dig (val Lx + val Ly))) ∧ (dig (val Lx + val Ly)).length ≤ 1048576) := digB (K := 65) (Sm.add (Sm.mono (by have h := Bx.out.2.1; first | (simp only [val_dig] at h; exact h) | exact h) (by omega)) (Sm.mono (by have h := By.out.2.1; first | (simp only [val_dig] at h; exact h) | exact h) (by omega))) (by omega)
  have hc := addL vy vx (Ly) (Lx) w4 64 hy.out hx.out By.out.1 Bx.out.1 (By.out.2.1.mono (by omega)) (Bx.out.2.1.mono (by omega)) (by omega) By.out.2.2 Bx.out.2.2
  try simp only [val_dig] at hc
  go_wp2_with fail
  refine hc.mono ?_
  rintro e w5 ⟨vt, rfl, hn, hk⟩
  clear hc
  have ht : Hid (Ls w5 vt (dig (val Ly + val Lx))) := hn
  replace hx : Hid (Ls w5 vx (Lx)) := hx.out.kp hk
  replace hy : Hid (Ls w5 vy (Ly)) := hy.out.kp hk
  replace hz : Hid (Ls w5 vz (Lz)) := hz.out.kp hk
  replace hs : Hid (Ls w5 vs (dig (val Lx + val Ly))) := hs.out.kp hk
  replace HK : Hid (Kp w w5) := HK.out.trans hk
  clear hk hn
  have Bt : Hid (Wd (dig (val Ly + val Lx)) ∧ Sm 65 (val (dig (val Ly + val Lx))) ∧ (dig (val Ly + val Lx)).length ≤ 1048576) := digB (K := 65) (Sm.add (Sm.mono (by have h := By.out.2.1; first | (simp only [val_dig] at h; exact h) | exact h) (by omega)) (Sm.mono (by have h := Bx.out.2.1; first | (simp only [val_dig] at h; exact h) | exact h) (by omega))) (by omega)
  have hc := mulL vs vz (dig (val Lx + val Ly)) (Lz) w5 65 64 hs.out hz.out Bs.out.1 Bz.out.1 Bs.out.2.1 Bz.out.2.1 (by omega) Bs.out.2.2 Bz.out.2.2
  try simp only [val_dig] at hc
  go_wp2_with fail
  refine hc.mono ?_
  rintro e w6 ⟨vl, rfl, hn, hk⟩
  clear hc
  have hl : Hid (Ls w6 vl (dig ((val Lx + val Ly) * val Lz))) := hn
  replace hx : Hid (Ls w6 vx (Lx)) := hx.out.kp hk
  replace hy : Hid (Ls w6 vy (Ly)) := hy.out.kp hk
  replace hz : Hid (Ls w6 vz (Lz)) := hz.out.kp hk
  replace hs : Hid (Ls w6 vs (dig (val Lx + val Ly))) := hs.out.kp hk
  replace ht : Hid (Ls w6 vt (dig (val Ly + val Lx))) := ht.out.kp hk
  replace HK : Hid (Kp w w6) := HK.out.trans hk
  clear hk hn
  have Bl : Hid (Wd (dig ((val Lx + val Ly) * val Lz)) ∧ Sm 129 (val (dig ((val Lx + val Ly) * val Lz))) ∧ (dig ((val Lx + val Ly) * val Lz)).length ≤ 1048576) := digB (K := 129) (Sm.mul (by have h := Bs.out.2.1; first | (simp only [val_dig] at h; exact h) | exact h) (by have h := Bz.out.2.1; first | (simp only [val_dig] at h; exact h) | exact h)) (by omega)
  have hc := mulL vx vz (Lx) (Lz) w6 64 64 hx.out hz.out Bx.out.1 Bz.out.1 Bx.out.2.1 Bz.out.2.1 (by omega) Bx.out.2.2 Bz.out.2.2
  try simp only [val_dig] at hc
  go_wp2_with fail
  refine hc.mono ?_
  rintro e w7 ⟨vp, rfl, hn, hk⟩
  clear hc
  have hp : Hid (Ls w7 vp (dig (val Lx * val Lz))) := hn
  replace hx : Hid (Ls w7 vx (Lx)) := hx.out.kp hk
  replace hy : Hid (Ls w7 vy (Ly)) := hy.out.kp hk
  replace hz : Hid (Ls w7 vz (Lz)) := hz.out.kp hk
  replace hs : Hid (Ls w7 vs (dig (val Lx + val Ly))) := hs.out.kp hk
  replace ht : Hid (Ls w7 vt (dig (val Ly + val Lx))) := ht.out.kp hk
  replace hl : Hid (Ls w7 vl (dig ((val Lx + val Ly) * val Lz))) := hl.out.kp hk
  replace HK : Hid (Kp w w7) := HK.out.trans hk
  clear hk hn
  have Bp : Hid (Wd (dig (val Lx * val Lz)) ∧ Sm 128 (val (dig (val Lx * val Lz))) ∧ (dig (val Lx * val Lz)).length ≤ 1048576) := digB (K := 128) (Sm.mul (by have h := Bx.out.2.1; first | (simp only [val_dig] at h; exact h) | exact h) (by have h := Bz.out.2.1; first | (simp only [val_dig] at h; exact h) | exact h)) (by omega)
  have hc := mulL vz vy (Lz) (Ly) w7 64 64 hz.out hy.out Bz.out.1 By.out.1 Bz.out.2.1 By.out.2.1 (by omega) Bz.out.2.2 By.out.2.2
  try simp only [val_dig] at hc
  go_wp2_with fail
  refine hc.mono ?_
  rintro e w8 ⟨vq, rfl, hn, hk⟩
  clear hc
  have hq : Hid (Ls w8 vq (dig (val Lz * val Ly))) := hn
  replace hx : Hid (Ls w8 vx (Lx)) := hx.out.kp hk
  replace hy : Hid (Ls w8 vy (Ly)) := hy.out.kp hk
  replace hz : Hid (Ls w8 vz (Lz)) := hz.out.kp hk
  replace hs : Hid (Ls w8 vs (dig (val Lx + val Ly))) := hs.out.kp hk
  replace ht : Hid (Ls w8 vt (dig (val Ly + val Lx))) := ht.out.kp hk
  replace hl : Hid (Ls w8 vl (dig ((val Lx + val Ly) * val Lz))) := hl.out.kp hk
  replace hp : Hid (Ls w8 vp (dig (val Lx * val Lz))) := hp.out.kp hk
  replace HK : Hid (Kp w w8) := HK.out.trans hk
  clear hk hn
  have Bq : Hid (Wd (dig (val Lz * val Ly)) ∧ Sm 128 (val (dig (val Lz * val Ly))) ∧ (dig (val Lz * val Ly)).length ≤ 1048576) := digB (K := 128) (Sm.mul (by have h := Bz.out.2.1; first | (simp only [val_dig] at h; exact h) | exact h) (by have h := By.out.2.1; first | (simp only [val_dig] at h; exact h) | exact h)) (by omega)
  have hc := addL vp vq (dig (val Lx * val Lz)) (dig (val Lz * val Ly)) w8 128 hp.out hq.out Bp.out.1 Bq.out.1 (Bp.out.2.1.mono (by omega)) (Bq.out.2.1.mono (by omega)) (by omega) Bp.out.2.2 Bq.out.2.2
  try simp only [val_dig] at hc
  go_wp2_with fail
  refine hc.mono ?_
  rintro e w9 ⟨vr, rfl, hn, hk⟩
  clear hc
  have hr : Hid (Ls w9 vr (dig ((val Lx * val Lz) + (val Lz * val Ly)))) := hn
  replace hx : Hid (Ls w9 vx (Lx)) := hx.out.kp hk
  replace hy : Hid (Ls w9 vy (Ly)) := hy.out.kp hk
  replace hz : Hid (Ls w9 vz (Lz)) := hz.out.kp hk
  replace hs : Hid (Ls w9 vs (dig (val Lx + val Ly))) := hs.out.kp hk
  replace ht : Hid (Ls w9 vt (dig (val Ly + val Lx))) := ht.out.kp hk
  replace hl : Hid (Ls w9 vl (dig ((val Lx + val Ly) * val Lz))) := hl.out.kp hk
  replace hp : Hid (Ls w9 vp (dig (val Lx * val Lz))) := hp.out.kp hk
  replace hq : Hid (Ls w9 vq (dig (val Lz * val Ly))) := hq.out.kp hk
  replace HK : Hid (Kp w w9) := HK.out.trans hk
  clear hk hn
  have Br : Hid (Wd (dig ((val Lx * val Lz) + (val Lz * val Ly))) ∧ Sm 129 (val (dig ((val Lx * val Lz) + (val Lz * val Ly)))) ∧ (dig ((val Lx * val Lz) + (val Lz * val Ly))).length ≤ 1048576) := digB (K := 129) (Sm.add (Sm.mono (by have h := Bp.out.2.1; first | (simp only [val_dig] at h; exact h) | exact h) (by omega)) (Sm.mono (by have h := Bq.out.2.1; first | (simp only [val_dig] at h; exact h) | exact h) (by omega))) (by omega)
  have hc := subL vs vy (dig (val Lx + val Ly)) (Ly) w9 65 hs.out hy.out Bs.out.1 By.out.1 Bs.out.2.1 (by rw [val_dig]; omega) (by omega) Bs.out.2.2 By.out.2.2
  try simp only [val_dig] at hc
  go_wp2_with fail
  refine hc.mono ?_
  rintro e w10 ⟨vu, rfl, hn, hk⟩
  clear hc
  have hu : Hid (Ls w10 vu (dig (val Lx + val Ly - val Ly))) := hn
  replace hx : Hid (Ls w10 vx (Lx)) := hx.out.kp hk
  replace hy : Hid (Ls w10 vy (Ly)) := hy.out.kp hk
  replace hz : Hid (Ls w10 vz (Lz)) := hz.out.kp hk
  replace hs : Hid (Ls w10 vs (dig (val Lx + val Ly))) := hs.out.kp hk
  replace ht : Hid (Ls w10 vt (dig (val Ly + val Lx))) := ht.out.kp hk
  replace hl : Hid (Ls w10 vl (dig ((val Lx + val Ly) * val Lz))) := hl.out.kp hk
  replace hp : Hid (Ls w10 vp (dig (val Lx * val Lz))) := hp.out.kp hk
  replace hq : Hid (Ls w10 vq (dig (val Lz * val Ly))) := hq.out.kp hk
  replace hr : Hid (Ls w10 vr (dig ((val Lx * val Lz) + (val Lz * val Ly)))) := hr.out.kp hk
  replace HK : Hid (Kp w w10) := HK.out.trans hk
  clear hk hn
  have hc := mulL vx vy (Lx) (Ly) w10 64 64 hx.out hy.out Bx.out.1 By.out.1 Bx.out.2.1 By.out.2.1 (by omega) Bx.out.2.2 By.out.2.2
  try simp only [val_dig] at hc
  go_wp2_with fail
  refine hc.mono ?_
  rintro e w11 ⟨vv, rfl, hn, hk⟩
  clear hc
  have hv : Hid (Ls w11 vv (dig (val Lx * val Ly))) := hn
  replace hx : Hid (Ls w11 vx (Lx)) := hx.out.kp hk
  replace hy : Hid (Ls w11 vy (Ly)) := hy.out.kp hk
  replace hz : Hid (Ls w11 vz (Lz)) := hz.out.kp hk
  replace hs : Hid (Ls w11 vs (dig (val Lx + val Ly))) := hs.out.kp hk
  replace ht : Hid (Ls w11 vt (dig (val Ly + val Lx))) := ht.out.kp hk
  replace hl : Hid (Ls w11 vl (dig ((val Lx + val Ly) * val Lz))) := hl.out.kp hk
  replace hp : Hid (Ls w11 vp (dig (val Lx * val Lz))) := hp.out.kp hk
  replace hq : Hid (Ls w11 vq (dig (val Lz * val Ly))) := hq.out.kp hk
  replace hr : Hid (Ls w11 vr (dig ((val Lx * val Lz) + (val Lz * val Ly)))) := hr.out.kp hk
  replace hu : Hid (Ls w11 vu (dig (val Lx + val Ly - val Ly))) := hu.out.kp hk
  replace HK : Hid (Kp w w11) := HK.out.trans hk
  clear hk hn
  have Bv : Hid (Wd (dig (val Lx * val Ly)) ∧ Sm 128 (val (dig (val Lx * val Ly))) ∧ (dig (val Lx * val Ly)).length ≤ 1048576) := digB (K := 128) (Sm.mul (by have h := Bx.out.2.1; first | (simp only [val_dig] at h; exact h) | exact h) (by have h := By.out.2.1; first | (simp only [val_dig] at h; exact h) | exact h)) (by omega)
  have hc := mulL vv vz (dig (val Lx * val Ly)) (Lz) w11 128 64 hv.out hz.out Bv.out.1 Bz.out.1 Bv.out.2.1 Bz.out.2.1 (by omega) Bv.out.2.2 Bz.out.2.2
  try simp only [val_dig] at hc
  go_wp2_with fail
  refine hc.mono ?_
  rintro e w12 ⟨vg, rfl, hn, hk⟩
  clear hc
  have hg : Hid (Ls w12 vg (dig ((val Lx * val Ly) * val Lz))) := hn
  replace hx : Hid (Ls w12 vx (Lx)) := hx.out.kp hk
  replace hy : Hid (Ls w12 vy (Ly)) := hy.out.kp hk
  replace hz : Hid (Ls w12 vz (Lz)) := hz.out.kp hk
  replace hs : Hid (Ls w12 vs (dig (val Lx + val Ly))) := hs.out.kp hk
  replace ht : Hid (Ls w12 vt (dig (val Ly + val Lx))) := ht.out.kp hk
  replace hl : Hid (Ls w12 vl (dig ((val Lx + val Ly) * val Lz))) := hl.out.kp hk
  replace hp : Hid (Ls w12 vp (dig (val Lx * val Lz))) := hp.out.kp hk
  replace hq : Hid (Ls w12 vq (dig (val Lz * val Ly))) := hq.out.kp hk
  replace hr : Hid (Ls w12 vr (dig ((val Lx * val Lz) + (val Lz * val Ly)))) := hr.out.kp hk
  replace hu : Hid (Ls w12 vu (dig (val Lx + val Ly - val Ly))) := hu.out.kp hk
  replace hv : Hid (Ls w12 vv (dig (val Lx * val Ly))) := hv.out.kp hk
  replace HK : Hid (Kp w w12) := HK.out.trans hk
  clear hk hn
  have Bg : Hid (Wd (dig ((val Lx * val Ly) * val Lz)) ∧ Sm 192 (val (dig ((val Lx * val Ly) * val Lz))) ∧ (dig ((val Lx * val Ly) * val Lz)).length ≤ 1048576) := digB (K := 192) (Sm.mul (by have h := Bv.out.2.1; first | (simp only [val_dig] at h; exact h) | exact h) (by have h := Bz.out.2.1; first | (simp only [val_dig] at h; exact h) | exact h)) (by omega)
  have hc := mulL vx vq (Lx) (dig (val Lz * val Ly)) w12 64 128 hx.out hq.out Bx.out.1 Bq.out.1 Bx.out.2.1 Bq.out.2.1 (by omega) Bx.out.2.2 Bq.out.2.2
  try simp only [val_dig] at hc
  go_wp2_with fail
  refine hc.mono ?_
  rintro e w13 ⟨vh, rfl, hn, hk⟩
  clear hc
  have hh : Hid (Ls w13 vh (dig (val Lx * (val Lz * val Ly)))) := hn
  replace hx : Hid (Ls w13 vx (Lx)) := hx.out.kp hk
  replace hy : Hid (Ls w13 vy (Ly)) := hy.out.kp hk
  replace hz : Hid (Ls w13 vz (Lz)) := hz.out.kp hk
  replace hs : Hid (Ls w13 vs (dig (val Lx + val Ly))) := hs.out.kp hk
  replace ht : Hid (Ls w13 vt (dig (val Ly + val Lx))) := ht.out.kp hk
  replace hl : Hid (Ls w13 vl (dig ((val Lx + val Ly) * val Lz))) := hl.out.kp hk
  replace hp : Hid (Ls w13 vp (dig (val Lx * val Lz))) := hp.out.kp hk
  replace hq : Hid (Ls w13 vq (dig (val Lz * val Ly))) := hq.out.kp hk
  replace hr : Hid (Ls w13 vr (dig ((val Lx * val Lz) + (val Lz * val Ly)))) := hr.out.kp hk
  replace hu : Hid (Ls w13 vu (dig (val Lx + val Ly - val Ly))) := hu.out.kp hk
  replace hv : Hid (Ls w13 vv (dig (val Lx * val Ly))) := hv.out.kp hk
  replace hg : Hid (Ls w13 vg (dig ((val Lx * val Ly) * val Lz))) := hg.out.kp hk
  replace HK : Hid (Kp w w13) := HK.out.trans hk
  clear hk hn
  have Bh : Hid (Wd (dig (val Lx * (val Lz * val Ly))) ∧ Sm 192 (val (dig (val Lx * (val Lz * val Ly)))) ∧ (dig (val Lx * (val Lz * val Ly))).length ≤ 1048576) := digB (K := 192) (Sm.mul (by have h := Bx.out.2.1; first | (simp only [val_dig] at h; exact h) | exact h) (by have h := Bq.out.2.1; first | (simp only [val_dig] at h; exact h) | exact h)) (by omega)
  have hc := lives_ w13
  try simp only [val_dig] at hc
  go_wp2_with fail
  refine hc.mono ?_
  rintro e w14 ⟨rfl, hk⟩
  clear hc
  replace hx : Hid (Ls w14 vx (Lx)) := hx.out.kp hk
  replace hy : Hid (Ls w14 vy (Ly)) := hy.out.kp hk
  replace hz : Hid (Ls w14 vz (Lz)) := hz.out.kp hk
  replace hs : Hid (Ls w14 vs (dig (val Lx + val Ly))) := hs.out.kp hk
  replace ht : Hid (Ls w14 vt (dig (val Ly + val Lx))) := ht.out.kp hk
  replace hl : Hid (Ls w14 vl (dig ((val Lx + val Ly) * val Lz))) := hl.out.kp hk
  replace hp : Hid (Ls w14 vp (dig (val Lx * val Lz))) := hp.out.kp hk
  replace hq : Hid (Ls w14 vq (dig (val Lz * val Ly))) := hq.out.kp hk
  replace hr : Hid (Ls w14 vr (dig ((val Lx * val Lz) + (val Lz * val Ly)))) := hr.out.kp hk
  replace hu : Hid (Ls w14 vu (dig (val Lx + val Ly - val Ly))) := hu.out.kp hk
  replace hv : Hid (Ls w14 vv (dig (val Lx * val Ly))) := hv.out.kp hk
  replace hg : Hid (Ls w14 vg (dig ((val Lx * val Ly) * val Lz))) := hg.out.kp hk
  replace hh : Hid (Ls w14 vh (dig (val Lx * (val Lz * val Ly)))) := hh.out.kp hk
  replace HK : Hid (Kp w w14) := HK.out.trans hk
  clear hk
  have hc := sameL vs vt (dig (val Lx + val Ly)) (dig (val Ly + val Lx)) w14 hs.out ht.out (by rw [Nat.add_comm]) Bs.out.2.2
  try simp only [val_dig] at hc
  go_wp2_with fail
  refine hc.mono ?_
  rintro e w15 ⟨rfl, hk⟩
  clear hc
  replace hx : Hid (Ls w15 vx (Lx)) := hx.out.kp hk
  replace hy : Hid (Ls w15 vy (Ly)) := hy.out.kp hk
  replace hz : Hid (Ls w15 vz (Lz)) := hz.out.kp hk
  replace hs : Hid (Ls w15 vs (dig (val Lx + val Ly))) := hs.out.kp hk
  replace ht : Hid (Ls w15 vt (dig (val Ly + val Lx))) := ht.out.kp hk
  replace hl : Hid (Ls w15 vl (dig ((val Lx + val Ly) * val Lz))) := hl.out.kp hk
  replace hp : Hid (Ls w15 vp (dig (val Lx * val Lz))) := hp.out.kp hk
  replace hq : Hid (Ls w15 vq (dig (val Lz * val Ly))) := hq.out.kp hk
  replace hr : Hid (Ls w15 vr (dig ((val Lx * val Lz) + (val Lz * val Ly)))) := hr.out.kp hk
  replace hu : Hid (Ls w15 vu (dig (val Lx + val Ly - val Ly))) := hu.out.kp hk
  replace hv : Hid (Ls w15 vv (dig (val Lx * val Ly))) := hv.out.kp hk
  replace hg : Hid (Ls w15 vg (dig ((val Lx * val Ly) * val Lz))) := hg.out.kp hk
  replace hh : Hid (Ls w15 vh (dig (val Lx * (val Lz * val Ly)))) := hh.out.kp hk
  replace HK : Hid (Kp w w15) := HK.out.trans hk
  clear hk
  have hc := sameL vl vr (dig ((val Lx + val Ly) * val Lz)) (dig ((val Lx * val Lz) + (val Lz * val Ly))) w15 hl.out hr.out (by rw [Nat.add_mul, Nat.mul_comm (val Lz)]) Bl.out.2.2
  try simp only [val_dig] at hc
  go_wp2_with fail
  refine hc.mono ?_
  rintro e w16 ⟨rfl, hk⟩
  clear hc
  replace hx : Hid (Ls w16 vx (Lx)) := hx.out.kp hk
  replace hy : Hid (Ls w16 vy (Ly)) := hy.out.kp hk
  replace hz : Hid (Ls w16 vz (Lz)) := hz.out.kp hk
  replace hs : Hid (Ls w16 vs (dig (val Lx + val Ly))) := hs.out.kp hk
  replace ht : Hid (Ls w16 vt (dig (val Ly + val Lx))) := ht.out.kp hk
  replace hl : Hid (Ls w16 vl (dig ((val Lx + val Ly) * val Lz))) := hl.out.kp hk
  replace hp : Hid (Ls w16 vp (dig (val Lx * val Lz))) := hp.out.kp hk
  replace hq : Hid (Ls w16 vq (dig (val Lz * val Ly))) := hq.out.kp hk
  replace hr : Hid (Ls w16 vr (dig ((val Lx * val Lz) + (val Lz * val Ly)))) := hr.out.kp hk
  replace hu : Hid (Ls w16 vu (dig (val Lx + val Ly - val Ly))) := hu.out.kp hk
  replace hv : Hid (Ls w16 vv (dig (val Lx * val Ly))) := hv.out.kp hk
  replace hg : Hid (Ls w16 vg (dig ((val Lx * val Ly) * val Lz))) := hg.out.kp hk
  replace hh : Hid (Ls w16 vh (dig (val Lx * (val Lz * val Ly)))) := hh.out.kp hk
  replace HK : Hid (Kp w w16) := HK.out.trans hk
  clear hk
  have hc := normL vx Lx w16 hx.out Bx.out.1 Bx.out.2.2
  try simp only [val_dig] at hc
  go_wp2_with fail
  refine hc.mono ?_
  rintro e w17 ⟨vnx, rfl, hn, hk⟩
  clear hc
  have hnx : Hid (Ls w17 vnx (dig (val Lx))) := hn
  replace hx : Hid (Ls w17 vx (Lx)) := hx.out.kp hk
  replace hy : Hid (Ls w17 vy (Ly)) := hy.out.kp hk
  replace hz : Hid (Ls w17 vz (Lz)) := hz.out.kp hk
  replace hs : Hid (Ls w17 vs (dig (val Lx + val Ly))) := hs.out.kp hk
  replace ht : Hid (Ls w17 vt (dig (val Ly + val Lx))) := ht.out.kp hk
  replace hl : Hid (Ls w17 vl (dig ((val Lx + val Ly) * val Lz))) := hl.out.kp hk
  replace hp : Hid (Ls w17 vp (dig (val Lx * val Lz))) := hp.out.kp hk
  replace hq : Hid (Ls w17 vq (dig (val Lz * val Ly))) := hq.out.kp hk
  replace hr : Hid (Ls w17 vr (dig ((val Lx * val Lz) + (val Lz * val Ly)))) := hr.out.kp hk
  replace hu : Hid (Ls w17 vu (dig (val Lx + val Ly - val Ly))) := hu.out.kp hk
  replace hv : Hid (Ls w17 vv (dig (val Lx * val Ly))) := hv.out.kp hk
  replace hg : Hid (Ls w17 vg (dig ((val Lx * val Ly) * val Lz))) := hg.out.kp hk
  replace hh : Hid (Ls w17 vh (dig (val Lx * (val Lz * val Ly)))) := hh.out.kp hk
  replace HK : Hid (Kp w w17) := HK.out.trans hk
  clear hk hn
  have hc := sameL vu vnx (dig (val Lx + val Ly - val Ly)) (dig (val Lx)) w17 hu.out hnx.out (by rw [Nat.add_sub_cancel]) (by rw [Nat.add_sub_cancel]; exact Nat.le_trans (Sm.len Bx.out.2.1) (by omega))
  try simp only [val_dig] at hc
  go_wp2_with fail
  refine hc.mono ?_
  rintro e w18 ⟨rfl, hk⟩
  clear hc
  replace hx : Hid (Ls w18 vx (Lx)) := hx.out.kp hk
  replace hy : Hid (Ls w18 vy (Ly)) := hy.out.kp hk
  replace hz : Hid (Ls w18 vz (Lz)) := hz.out.kp hk
  replace hs : Hid (Ls w18 vs (dig (val Lx + val Ly))) := hs.out.kp hk
  replace ht : Hid (Ls w18 vt (dig (val Ly + val Lx))) := ht.out.kp hk
  replace hl : Hid (Ls w18 vl (dig ((val Lx + val Ly) * val Lz))) := hl.out.kp hk
  replace hp : Hid (Ls w18 vp (dig (val Lx * val Lz))) := hp.out.kp hk
  replace hq : Hid (Ls w18 vq (dig (val Lz * val Ly))) := hq.out.kp hk
  replace hr : Hid (Ls w18 vr (dig ((val Lx * val Lz) + (val Lz * val Ly)))) := hr.out.kp hk
  replace hu : Hid (Ls w18 vu (dig (val Lx + val Ly - val Ly))) := hu.out.kp hk
  replace hv : Hid (Ls w18 vv (dig (val Lx * val Ly))) := hv.out.kp hk
  replace hg : Hid (Ls w18 vg (dig ((val Lx * val Ly) * val Lz))) := hg.out.kp hk
  replace hh : Hid (Ls w18 vh (dig (val Lx * (val Lz * val Ly)))) := hh.out.kp hk
  replace hnx : Hid (Ls w18 vnx (dig (val Lx))) := hnx.out.kp hk
  replace HK : Hid (Kp w w18) := HK.out.trans hk
  clear hk
  have hc := sameL vg vh (dig ((val Lx * val Ly) * val Lz)) (dig (val Lx * (val Lz * val Ly))) w18 hg.out hh.out (by rw [Nat.mul_assoc, Nat.mul_comm (val Ly)]) Bg.out.2.2
  try simp only [val_dig] at hc
  go_wp2_with fail
  refine hc.mono ?_
  rintro e w19 ⟨rfl, hk⟩
  clear hc
  replace hx : Hid (Ls w19 vx (Lx)) := hx.out.kp hk
  replace hy : Hid (Ls w19 vy (Ly)) := hy.out.kp hk
  replace hz : Hid (Ls w19 vz (Lz)) := hz.out.kp hk
  replace hs : Hid (Ls w19 vs (dig (val Lx + val Ly))) := hs.out.kp hk
  replace ht : Hid (Ls w19 vt (dig (val Ly + val Lx))) := ht.out.kp hk
  replace hl : Hid (Ls w19 vl (dig ((val Lx + val Ly) * val Lz))) := hl.out.kp hk
  replace hp : Hid (Ls w19 vp (dig (val Lx * val Lz))) := hp.out.kp hk
  replace hq : Hid (Ls w19 vq (dig (val Lz * val Ly))) := hq.out.kp hk
  replace hr : Hid (Ls w19 vr (dig ((val Lx * val Lz) + (val Lz * val Ly)))) := hr.out.kp hk
  replace hu : Hid (Ls w19 vu (dig (val Lx + val Ly - val Ly))) := hu.out.kp hk
  replace hv : Hid (Ls w19 vv (dig (val Lx * val Ly))) := hv.out.kp hk
  replace hg : Hid (Ls w19 vg (dig ((val Lx * val Ly) * val Lz))) := hg.out.kp hk
  replace hh : Hid (Ls w19 vh (dig (val Lx * (val Lz * val Ly)))) := hh.out.kp hk
  replace hnx : Hid (Ls w19 vnx (dig (val Lx))) := hnx.out.kp hk
  replace HK : Hid (Kp w w19) := HK.out.trans hk
  clear hk
  go_wp2
  exact bodyPost_ret (v := .bool true) (by simp [results, Try.results3, go_sem]) rfl ⟨rfl, HK.out⟩
end Go.Proofs.Ytaamimpanpgifaa
