import Derived.Test.YtaamimpanpgifaaProg
import Derived.Test.YtaamimpanpgifaaKA
import Derived.Test.YtaamimpanpgifaaKA2
import Derived.Test.YtaamimpanpgifaaKA3
import Derived.Test.YtaamimpanpgifaaKA4
import Derived.Test.YtaamimpanpgifaaKXM
import Derived.Test.YtaamimpanpgifaaKXT
import Derived.Test.YtaamimpanpgifaaKA5
import Derived.Test.YtaamimpanpgifaaKAT
import Derived.Test.YtaamimpanpgifaaKLB
import Derived.Test.YtaamimpanpgifaaKLN
import Derived.Test.YtaamimpanpgifaaKPR
import Derived.Test.YtaamimpanpgifaaKSL
import Derived.Test.YtaamimpanpgifaaKSR
import Derived.Test.YtaamimpanpgifaaKNF
import Derived.Test.YtaamimpanpgifaaKXQ
import Derived.Test.YtaamimpanpgifaaKTO
import Derived.Test.YtaamimpanpgifaaKHB
import Derived.Test.YtaamimpanpgifaaKBW
import Derived.Test.YtaamimpanpgifaaKNSm
import Derived.Test.YtaamimpanpgifaaKW4
import Derived.Test.YtaamimpanpgifaaKRW
import Derived.Test.YtaamimpanpgifaaKNA
import Derived.Test.YtaamimpanpgifaaKNS
import Derived.Test.YtaamimpanpgifaaKNM
import Derived.Test.YtaamimpanpgifaaKNPw
import Derived.Test.YtaamimpanpgifaaKXS
import Derived.Test.YtaamimpanpgifaaKLI
import Derived.Test.YtaamimpanpgifaaKLS
import Derived.Test.YtaamimpanpgifaaKRG
import Derived.WalkKit
import Derived.ProofKit
import Derived.RowKit3
import Derived.WalkSpells
import Derived.StillTactics
import Derived.Deep.QuietTactic
import Derived.BigQuiet
import Derived.Below
import Derived.Deep.OwnRows
import Derived.OwnWalk
namespace Go.Proofs.Ytaamimpanpgifaa
open Go.RowKit
theorem Sm.pow1 {K a : Nat} (h : Sm K a) (n : Nat) : Sm (K * n + 1) (a ^ n) := by
  by_cases e : n = 0
  · subst e
    rw [Nat.pow_zero]
    exact Sm.one (by omega)
  · exact (h.pow n (by omega)).mono (by omega)
theorem powLz (v1 : Value) (L1 : List Int) (w : World) (K n : Nat) (z : Int) (hz : z = (n : Int)) (h1 : Ls w v1 L1) (w1 : Wd L1) (s1 : Sm K (val L1)) (hK : 0 < K) (hk : K ≤ 16384) (hn : K * n ≤ 16384) (l1 : L1.length ≤ 1048576) :
    Calls Try.prog 12 #[v1, .int .i64 z] w fun e w' => ∃ v, e = .returned (.tuple #[v, .int .i64 0]) ∧ Ls w' v (dig (val L1 ^ n)) ∧ Kp w w' := by
  subst hz
  exact powL v1 L1 w K n h1 w1 s1 hK hk hn l1
set_option maxRecDepth 20000 in
set_option maxHeartbeats 2000000 in
theorem grows_ (pa : Option Addr) (ca : Nat) (xs : List Int) (z1 z2 : Int) (w : World) (hx0 : Arr w pa xs) (hwx : Wd xs) (lx : xs.length ≤ 1048576) :
    Calls Try.prog 4 #[.slice pa xs.length ca, .int .i64 z1, .int .i64 z2] w fun e w' => e = .returned (.bool true) ∧ Kp w w' := by
  have s1 := short_ pa ca 8 xs w hx0 lx
  have Bx : Hid (Wd (xs.take 8) ∧ Sm 8 (val (xs.take 8)) ∧ (xs.take 8).length ≤ 1048576) := takeB xs hwx 8 (by omega)
  obtain ⟨C, hC⟩ : ∃ C, C = xs.length := ⟨_, rfl⟩
  rw [← hC] at s1 ⊢
  obtain ⟨Lx, hLx⟩ : ∃ Lx, Lx = xs.take 8 := ⟨_, rfl⟩
  rw [← hLx] at s1 Bx
  clear hx0 hwx lx hC hLx
  have HK : Hid (Kp w w) := Kp.refl w
  have a1 : (¬ z1 < 0 ∧ ¬ 60 < z1) ∨ z1 < 0 ∨ (¬ z1 < 0 ∧ 60 < z1) := by omega
  have a2 : (¬ z2 < 0 ∧ ¬ 60 < z2) ∨ z2 < 0 ∨ (¬ z2 < 0 ∧ 60 < z2) := by omega
  obtain ⟨M, hM⟩ : ∃ M : Nat, M ≤ 60 ∧ ((¬ z1 < 0 ∧ ¬ 60 < z1 → (M : Int) = z1) ∧ (z1 < 0 ∨ 60 < z1 → (M : Int) = 3)) := by
    by_cases c : ¬ z1 < 0 ∧ ¬ 60 < z1
    · exact ⟨z1.toNat, by omega, by omega, by omega⟩
    · exact ⟨3, by omega, by omega, by omega⟩
  obtain ⟨N, hN⟩ : ∃ N : Nat, N ≤ 60 ∧ ((¬ z2 < 0 ∧ ¬ 60 < z2 → (N : Int) = z2) ∧ (z2 < 0 ∨ 60 < z2 → (N : Int) = 0)) := by
    by_cases c : ¬ z2 < 0 ∧ ¬ 60 < z2
    · exact ⟨z2.toNat, by omega, by omega, by omega⟩
    · exact ⟨0, by omega, by omega, by omega⟩
  have HM : Hid (M ≤ 60 ∧ ((¬ z1 < 0 ∧ ¬ 60 < z1 → (M : Int) = z1) ∧ (z1 < 0 ∨ 60 < z1 → (M : Int) = 3))) := hM
  have HN : Hid (N ≤ 60 ∧ ((¬ z2 < 0 ∧ ¬ 60 < z2 → (N : Int) = z2) ∧ (z2 < 0 ∨ 60 < z2 → (N : Int) = 0))) := hN
  clear hM hN
  rcases a1 with ⟨c1, c2⟩ | c1 | ⟨c1, c2⟩ <;> rcases a2 with ⟨d1, d2⟩ | d1 | ⟨d1, d2⟩
  all_goals
    go_enter Try.func4, Try.ntmps4
    have hc := s1
    try simp only [val_dig] at hc
    go_wp2_with fail
    refine hc.mono ?_
    rintro e w1 ⟨vx, rfl, hn, hk⟩
    clear hc
    have hx : Hid (Ls w1 vx (Lx)) := hn
    replace HK : Hid (Kp w w1) := HK.out.trans hk
    clear hk hn
    clear s1
    have hc := fun z hz => powLz vx Lx w1 8 (M) z hz hx.out Bx.out.1 Bx.out.2.1 (by omega) (by omega) (by have := HM.out; have := HN.out; omega) Bx.out.2.2
    go_wp2_with fail
    refine (hc _ (by have h1 := HM.out; have h2 := HN.out; first | omega | (simp; omega))).mono ?_
    rintro e w2 ⟨vp, rfl, hn, hk⟩
    clear hc
    have hp : Hid (Ls w2 vp (dig (val Lx ^ (M)))) := hn
    replace hx : Hid (Ls w2 vx (Lx)) := hx.out.kp hk
    replace HK : Hid (Kp w w2) := HK.out.trans hk
    clear hk hn
    have Bp : Hid (Wd (dig (val Lx ^ (M))) ∧ Sm (8 * (M) + 1) (val (dig (val Lx ^ (M)))) ∧ (dig (val Lx ^ (M))).length ≤ 1048576) := digB (Sm.pow1 Bx.out.2.1 (M)) (by have := HM.out; have := HN.out; omega)
    have hc := fun z hz => powLz vx Lx w2 8 (N) z hz hx.out Bx.out.1 Bx.out.2.1 (by omega) (by omega) (by have := HM.out; have := HN.out; omega) Bx.out.2.2
    go_wp2_with fail
    refine (hc _ (by have h1 := HM.out; have h2 := HN.out; first | omega | (simp; omega))).mono ?_
    rintro e w3 ⟨vq, rfl, hn, hk⟩
    clear hc
    have hq : Hid (Ls w3 vq (dig (val Lx ^ (N)))) := hn
    replace hx : Hid (Ls w3 vx (Lx)) := hx.out.kp hk
    replace hp : Hid (Ls w3 vp (dig (val Lx ^ (M)))) := hp.out.kp hk
    replace HK : Hid (Kp w w3) := HK.out.trans hk
    clear hk hn
    have Bq : Hid (Wd (dig (val Lx ^ (N))) ∧ Sm (8 * (N) + 1) (val (dig (val Lx ^ (N)))) ∧ (dig (val Lx ^ (N))).length ≤ 1048576) := digB (Sm.pow1 Bx.out.2.1 (N)) (by have := HM.out; have := HN.out; omega)
    have hc := fun z hz => powLz vx Lx w3 8 (M + N) z hz hx.out Bx.out.1 Bx.out.2.1 (by omega) (by omega) (by have := HM.out; have := HN.out; omega) Bx.out.2.2
    go_wp2_with fail
    refine (hc _ (by have h1 := HM.out; have h2 := HN.out; first | omega | (simp; omega))).mono ?_
    rintro e w4 ⟨vr, rfl, hn, hk⟩
    clear hc
    have hr : Hid (Ls w4 vr (dig (val Lx ^ (M + N)))) := hn
    replace hx : Hid (Ls w4 vx (Lx)) := hx.out.kp hk
    replace hp : Hid (Ls w4 vp (dig (val Lx ^ (M)))) := hp.out.kp hk
    replace hq : Hid (Ls w4 vq (dig (val Lx ^ (N)))) := hq.out.kp hk
    replace HK : Hid (Kp w w4) := HK.out.trans hk
    clear hk hn
    have Br : Hid (Wd (dig (val Lx ^ (M + N))) ∧ Sm (8 * (M + N) + 1) (val (dig (val Lx ^ (M + N)))) ∧ (dig (val Lx ^ (M + N))).length ≤ 1048576) := digB (Sm.pow1 Bx.out.2.1 (M + N)) (by have := HM.out; have := HN.out; omega)
    have hc := mulL vp vq (dig (val Lx ^ (M))) (dig (val Lx ^ (N))) w4 (8 * M + 1) (8 * N + 1) hp.out hq.out Bp.out.1 Bq.out.1 Bp.out.2.1 Bq.out.2.1 (by have := HM.out; have := HN.out; omega) Bp.out.2.2 Bq.out.2.2
    try simp only [val_dig] at hc
    go_wp2_with fail
    refine hc.mono ?_
    rintro e w5 ⟨vs, rfl, hn, hk⟩
    clear hc
    have hs : Hid (Ls w5 vs (dig (val Lx ^ M * val Lx ^ N))) := hn
    replace hx : Hid (Ls w5 vx (Lx)) := hx.out.kp hk
    replace hp : Hid (Ls w5 vp (dig (val Lx ^ (M)))) := hp.out.kp hk
    replace hq : Hid (Ls w5 vq (dig (val Lx ^ (N)))) := hq.out.kp hk
    replace hr : Hid (Ls w5 vr (dig (val Lx ^ (M + N)))) := hr.out.kp hk
    replace HK : Hid (Kp w w5) := HK.out.trans hk
    clear hk hn
    have hc := fun z hz => powLz vx Lx w5 8 (1) z hz hx.out Bx.out.1 Bx.out.2.1 (by omega) (by omega) (by have := HM.out; have := HN.out; omega) Bx.out.2.2
    go_wp2_with fail
    refine (hc _ (by have h1 := HM.out; have h2 := HN.out; first | omega | (simp; omega))).mono ?_
    rintro e w6 ⟨vo, rfl, hn, hk⟩
    clear hc
    have ho : Hid (Ls w6 vo (dig (val Lx ^ (1)))) := hn
    replace hx : Hid (Ls w6 vx (Lx)) := hx.out.kp hk
    replace hp : Hid (Ls w6 vp (dig (val Lx ^ (M)))) := hp.out.kp hk
    replace hq : Hid (Ls w6 vq (dig (val Lx ^ (N)))) := hq.out.kp hk
    replace hr : Hid (Ls w6 vr (dig (val Lx ^ (M + N)))) := hr.out.kp hk
    replace hs : Hid (Ls w6 vs (dig (val Lx ^ M * val Lx ^ N))) := hs.out.kp hk
    replace HK : Hid (Kp w w6) := HK.out.trans hk
    clear hk hn
    have Bo : Hid (Wd (dig (val Lx ^ (1))) ∧ Sm (8 * (1) + 1) (val (dig (val Lx ^ (1)))) ∧ (dig (val Lx ^ (1))).length ≤ 1048576) := digB (Sm.pow1 Bx.out.2.1 (1)) (by have := HM.out; have := HN.out; omega)
    have hc := lives_ w6
    try simp only [val_dig] at hc
    go_wp2_with fail
    refine hc.mono ?_
    rintro e w7 ⟨rfl, hk⟩
    clear hc
    replace hx : Hid (Ls w7 vx (Lx)) := hx.out.kp hk
    replace hp : Hid (Ls w7 vp (dig (val Lx ^ (M)))) := hp.out.kp hk
    replace hq : Hid (Ls w7 vq (dig (val Lx ^ (N)))) := hq.out.kp hk
    replace hr : Hid (Ls w7 vr (dig (val Lx ^ (M + N)))) := hr.out.kp hk
    replace hs : Hid (Ls w7 vs (dig (val Lx ^ M * val Lx ^ N))) := hs.out.kp hk
    replace ho : Hid (Ls w7 vo (dig (val Lx ^ (1)))) := ho.out.kp hk
    replace HK : Hid (Kp w w7) := HK.out.trans hk
    clear hk
    have hc := sameL vr vs (dig (val Lx ^ (M + N))) (dig (val Lx ^ M * val Lx ^ N)) w7 hr.out hs.out (by rw [Nat.pow_add]) Br.out.2.2
    try simp only [val_dig] at hc
    go_wp2_with fail
    refine hc.mono ?_
    rintro e w8 ⟨rfl, hk⟩
    clear hc
    replace hx : Hid (Ls w8 vx (Lx)) := hx.out.kp hk
    replace hp : Hid (Ls w8 vp (dig (val Lx ^ (M)))) := hp.out.kp hk
    replace hq : Hid (Ls w8 vq (dig (val Lx ^ (N)))) := hq.out.kp hk
    replace hr : Hid (Ls w8 vr (dig (val Lx ^ (M + N)))) := hr.out.kp hk
    replace hs : Hid (Ls w8 vs (dig (val Lx ^ M * val Lx ^ N))) := hs.out.kp hk
    replace ho : Hid (Ls w8 vo (dig (val Lx ^ (1)))) := ho.out.kp hk
    replace HK : Hid (Kp w w8) := HK.out.trans hk
    clear hk
    have hc := normL vx Lx w8 hx.out Bx.out.1 Bx.out.2.2
    try simp only [val_dig] at hc
    go_wp2_with fail
    refine hc.mono ?_
    rintro e w9 ⟨vnx, rfl, hn, hk⟩
    clear hc
    have hnx : Hid (Ls w9 vnx (dig (val Lx))) := hn
    replace hx : Hid (Ls w9 vx (Lx)) := hx.out.kp hk
    replace hp : Hid (Ls w9 vp (dig (val Lx ^ (M)))) := hp.out.kp hk
    replace hq : Hid (Ls w9 vq (dig (val Lx ^ (N)))) := hq.out.kp hk
    replace hr : Hid (Ls w9 vr (dig (val Lx ^ (M + N)))) := hr.out.kp hk
    replace hs : Hid (Ls w9 vs (dig (val Lx ^ M * val Lx ^ N))) := hs.out.kp hk
    replace ho : Hid (Ls w9 vo (dig (val Lx ^ (1)))) := ho.out.kp hk
    replace HK : Hid (Kp w w9) := HK.out.trans hk
    clear hk hn
    have hc := sameL vo vnx (dig (val Lx ^ (1))) (dig (val Lx)) w9 ho.out hnx.out (by rw [Nat.pow_one]) Bo.out.2.2
    try simp only [val_dig] at hc
    go_wp2_with fail
    refine hc.mono ?_
    rintro e w10 ⟨rfl, hk⟩
    clear hc
    replace hx : Hid (Ls w10 vx (Lx)) := hx.out.kp hk
    replace hp : Hid (Ls w10 vp (dig (val Lx ^ (M)))) := hp.out.kp hk
    replace hq : Hid (Ls w10 vq (dig (val Lx ^ (N)))) := hq.out.kp hk
    replace hr : Hid (Ls w10 vr (dig (val Lx ^ (M + N)))) := hr.out.kp hk
    replace hs : Hid (Ls w10 vs (dig (val Lx ^ M * val Lx ^ N))) := hs.out.kp hk
    replace ho : Hid (Ls w10 vo (dig (val Lx ^ (1)))) := ho.out.kp hk
    replace hnx : Hid (Ls w10 vnx (dig (val Lx))) := hnx.out.kp hk
    replace HK : Hid (Kp w w10) := HK.out.trans hk
    clear hk
    go_wp2
    exact bodyPost_ret (v := .bool true) (by simp [results, Try.results4, go_sem]) rfl ⟨rfl, HK.out⟩
end Go.Proofs.Ytaamimpanpgifaa
