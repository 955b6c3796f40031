import Derived.Test.YtjblehmafjcncaaDoorProg
import Derived.Test.YtjblehmafjcncaaDoorKXA0
import Derived.Test.YtjblehmafjcncaaDoorKXM
import Derived.Test.YtjblehmafjcncaaDoorKXT
import Derived.Test.YtjblehmafjcncaaDoorKAT
import Derived.Test.YtjblehmafjcncaaDoorKLB
import Derived.Test.YtjblehmafjcncaaDoorKLN
import Derived.Test.YtjblehmafjcncaaDoorKPR
import Derived.Test.YtjblehmafjcncaaDoorKXSL
import Derived.Test.YtjblehmafjcncaaDoorKNF
import Derived.Test.YtjblehmafjcncaaDoorKXQ
import Derived.Test.YtjblehmafjcncaaDoorKTO
import Derived.Test.YtjblehmafjcncaaDoorKHB
import Derived.Test.YtjblehmafjcncaaDoorKXTZ
import Derived.Test.YtjblehmafjcncaaDoorKBW
import Derived.Test.YtjblehmafjcncaaDoorKNSm
import Derived.Test.YtjblehmafjcncaaDoorKW4
import Derived.Test.YtjblehmafjcncaaDoorKRW
import Derived.Test.YtjblehmafjcncaaDoorKXN
import Derived.Test.YtjblehmafjcncaaDoorKNS
import Derived.Test.YtjblehmafjcncaaDoorKXNM
import Derived.Test.YtjblehmafjcncaaDoorKXS
import Derived.Test.YtjblehmafjcncaaDoorKXRO2
import Derived.Test.YtjblehmafjcncaaDoorKLS
import Derived.Test.YtjblehmafjcncaaDoorKXRP
import Derived.Test.YtjblehmafjcncaaDoorKXRL
import Derived.Test.YtjblehmafjcncaaDoorKXRM
import Derived.Test.YtjblehmafjcncaaDoorKRC
import Derived.Test.YtjblehmafjcncaaDoorKXNB
import Derived.WalkKit
import Derived.ProofKit
import Derived.RowKit3
import Derived.WalkSpells
import Derived.StillTactics
import Derived.Deep.QuietTactic
import Derived.BigQuiet
import Derived.Below
import Derived.Deep.OwnRows
import Derived.OwnWalk
namespace Go.Proofs.YtjblehmafjcncaaDoor
open Go.RowKit
set_option maxRecDepth 20000 in
theorem leftR (v : Value) (a m : Nat) (w : World) (h : Ls w v (dig a)) (l : (dig a).length ≤ 1048576) (hm : m ≤ 16777216) :
    Calls Tryd.prog 72 #[v, .int .i64 (m : Int)] w fun e w' => ∃ v', e = .returned v' ∧ Own w' w.heap.size v' (dig (a * 2 ^ m)) ∧ Kp w w' := by
  obtain ⟨p, c, rfl, hA, hc⟩ := h
  have h := rleft_ p c m (dig a) w hA (Wd_dig a) l hm
  rw [val_dig] at h
  exact h
set_option maxRecDepth 20000 in
theorem plusR (v1 v2 : Value) (a : Nat) (L : List Int) (w : World) (h1 : Ls w v1 (dig a)) (h2 : Ls w v2 L) (w2 : Wd L) (l1 : (dig a).length ≤ 1048576) (l2 : L.length ≤ 1048576) :
    Calls Tryd.prog 75 #[v1, v2] w fun e w' => ∃ v', e = .returned v' ∧ Own w' w.heap.size v' (dig (a + val L)) ∧ Kp w w' := by
  obtain ⟨p, c, rfl, hA, hc⟩ := h1
  obtain ⟨q, d, rfl, hB, hd⟩ := h2
  refine (rplus_ p q c d (dig a) L w hA hB (Wd_dig a) w2 (by omega) (by omega)).mono ?_
  rintro e w' ⟨v, L', he, hO, hw, hv, _, hk⟩
  rw [val_dig] at hv
  rw [nz_dig L' hw, hv] at hO
  exact ⟨v, he, hO, hk⟩
set_option maxRecDepth 20000 in
theorem minusR (v1 v2 : Value) (a b : Nat) (w : World) (h1 : Ls w v1 (dig a)) (h2 : Ls w v2 (dig b)) (l1 : (dig a).length ≤ 1048576) (hle : b ≤ a) :
    Calls Tryd.prog 76 #[v1, v2] w fun e w' => ∃ v', e = .returned v' ∧ Own w' w.heap.size v' (dig (a - b)) ∧ Kp w w' := by
  obtain ⟨p, c, rfl, hA, hc⟩ := h1
  obtain ⟨q, d, rfl, hB, hd⟩ := h2
  have h := rminus_ p q c d (dig a) (dig b) w hA hB (Wd_dig a) (Wd_dig b) (by omega) (len32_mono hle) (by rw [val_dig, val_dig]; exact hle)
  rw [val_dig, val_dig] at h
  exact h
set_option maxRecDepth 20000 in
theorem cmpR (v1 v2 : Value) (a b : Nat) (w : World) (h1 : Ls w v1 (dig a)) (h2 : Ls w v2 (dig b)) (l1 : (dig a).length ≤ 1048576) (l2 : (dig b).length ≤ 1048576) :
    Calls Tryd.prog 26 #[v1, v2] w fun e w' => e = .returned (.int .i64 (cmpN a b)) ∧ Kp w w' := by
  obtain ⟨p, c, rfl, hA, hc⟩ := h1
  obtain ⟨q, d, rfl, hB, hd⟩ := h2
  have h := rcmp_ p q c d (dig a) (dig b) w hA hB (Wd_dig a) (Wd_dig b) (by omega) (by omega)
  rw [val_dig, val_dig] at h
  exact h
set_option maxRecDepth 20000 in
theorem bitR (p : Option Addr) (c m : Nat) (xs : List Int) (w : World) (hx : Arr w p xs) (hwx : Wd xs) (lx : xs.length ≤ 16777216) (hm : m / 32 < xs.length) :
    Calls Tryd.prog 50 #[.slice p xs.length c, .int .i64 (m : Int)] w fun e w' => e = .returned (.int .u32 (val xs / 2 ^ m % 2 : Nat)) ∧ w' = w := by
  have h := rbit_ p c (m / 32) (m % 32) xs w hx hwx lx hm (Nat.mod_lt _ (by decide))
  rw [val_bit xs hwx (m / 32) (m % 32) (Nat.mod_lt _ (by decide)) hm, Nat.div_add_mod] at h
  exact h
theorem dec64 (j : Nat) (h : j ≤ 1048576) : wrap64 ((j : Int) - 1) = (j : Int) - 1 := by
  by_cases c0 : j = 0
  · rw [c0]; unfold wrap64; omega
  · exact w64 _ (by omega) (by omega)
set_option maxRecDepth 20000 in
set_option maxHeartbeats 1000000 in
theorem rsquare_ (p : Option Addr) (c : Nat) (xs : List Int) (w : World) (hx : Arr w p xs) (hwx : Wd xs) (lx : xs.length ≤ 1048576) (h16 : tl xs ≤ 16384) :
    Calls Tryd.prog 53 #[.slice p xs.length c] w fun e w' => ∃ s r, e = .returned (.tuple #[s, r]) ∧ Own w' w.heap.size s (dig (rtN (val xs))) ∧ Ls w' r (dig (val xs - rtN (val xs) * rtN (val xs))) ∧ Kp w w' := by
  have hln := rlen_ p c xs w hx hwx (by omega)
  have hbt := fun m w' (k : Kp w w') => bitR p c m xs w' (hx.grown k) hwx (by omega)
  obtain ⟨A, hA⟩ : ∃ A, A = val xs := ⟨_, rfl⟩
  have hlen : len32 A ≤ 16384 := by rw [hA, ← tl_len xs hwx]; exact h16
  have hSm : A < 4294967296 ^ len32 A := len32_up A (len32 A) (Nat.le_refl _)
  have hbl : blen A ≤ 524288 := Nat.le_trans (blen_len A (len32 A) (Nat.le_refl _)) (by omega)
  have hbx : blen A ≤ 32 * xs.length := blen_len A xs.length (by rw [hA, ← tl_len xs hwx]; exact tl_le xs)
  obtain ⟨K, hK⟩ : ∃ K, K = (blen A + 1) / 2 := ⟨_, rfl⟩
  have hK9 : K ≤ 262144 := by omega
  have hin : ∀ j, j < K → (2 * j + 1) / 32 < xs.length := fun j hj => by omega
  have htop := sq_top A K hK
  obtain ⟨bl, hbl9⟩ : ∃ bl, bl = blen A := ⟨_, rfl⟩
  rw [← hA, ← hbl9] at hln
  rw [← hbl9] at hbl hK
  obtain ⟨N, hN⟩ : ∃ N, N = xs.length := ⟨_, rfl⟩
  rw [← hN] at hln hbt hin
  rw [← hN, ← hA]
  have hz : ∀ x, x ≤ 16 * A + 16 → (dig x).length ≤ 1048576 := fun x h => by
    by_cases c : A = 0
    · subst c
      exact Nat.le_trans (len32_small x (by omega)) (by omega)
    · have := sz hSm hlen (x := x / 2) (by omega)
      have h2 : len32 x ≤ len32 (x / 2) + 1 := by
        have e0 : len32 (x / 2 * 2 + 1) ≤ len32 (x / 2) + 1 := by
          have h3 := len32_up (x / 2) (len32 (x / 2)) (Nat.le_refl _)
          by_cases c2 : len32 (x / 2 * 2 + 1) ≤ len32 (x / 2) + 1
          · exact c2
          · exfalso
            have := len32_lt (x / 2 * 2 + 1) (len32 (x / 2) + 1) (by omega)
            rw [Nat.pow_succ] at this
            omega
        exact Nat.le_trans (len32_mono (by omega)) e0
      unfold len32 at h2
      omega
  have HB : Hid (∀ m w', Kp w w' → m / 32 < N → Calls Tryd.prog 50 #[.slice p N c, .int .i64 (m : Int)] w' fun e w'' => e = .returned (.int .u32 (A / 2 ^ m % 2 : Nat)) ∧ w'' = w') := fun m w' k hm => by rw [hA]; exact hbt m w' k hm
  have HI : Hid (K ≤ 262144 ∧ (∀ j, j < K → (2 * j + 1) / 32 < N) ∧ A / 4 ^ K = 0 ∧ ∀ x, x ≤ 16 * A + 16 → (dig x).length ≤ 1048576) := ⟨hK9, hin, htop, hz⟩
  obtain ⟨b1, hb1⟩ : ∃ b1, b1 = bl + 1 := ⟨_, rfl⟩
  have f1 : wrap64 ((bl : Int) + 1) = (b1 : Int) := by rw [show (bl : Int) + 1 = (b1 : Int) from by omega]; exact w64 _ (by omega) (by omega)
  have f2 : Int.tdiv (b1 : Int) 2 = (K : Int) := by rw [hK, ← hb1]; rfl
  have f3 : (b1 : Int) / 2 = (K : Int) := by rw [hK, ← hb1]; exact (Int.natCast_ediv _ _).symm
  have f4 : wrap64 ((K : Int) - 1) = (K : Int) - 1 := by
    by_cases c0 : K = 0
    · rw [c0]; unfold wrap64; omega
    · exact w64 _ (by omega) (by omega)
  have f0 : wrap64 (K : Int) = (K : Int) := w64 _ (by omega) (by omega)
  clear hx hwx lx h16 hbt hlen hSm hbl hbx hin htop hbl9 hN hA hz hb1 hK hK9
  go_enter Tryd.func53, Tryd.ntmps53
  go_wp2_with fail
  refine hln.mono ?_
  rintro e w' ⟨rfl, hw'⟩
  obtain rfl := hw'.symm
  clear hln hw'
  go_wp2
  go_loopw [5, 6, 7] (fun ss rr ii wr => ∃ (k : Nat) (v u : Value), ii = .int .i64 ((k : Int) - 1) ∧ v = ss ∧ u = rr ∧ k ≤ K ∧ Own wr w.heap.size v (dig (rtN (A / 4 ^ k))) ∧ Ls wr u (dig (A / 4 ^ k - rtN (A / 4 ^ k) * rtN (A / 4 ^ k))) ∧ Kp w wr) (fun _ _ i _ => (intOf i + 1).toNat)
  case atStart =>
    refine ⟨K, _, _, by rw [f4], rfl, rfl, Nat.le_refl _, ?_, ?_, Kp.refl _⟩
    · rw [HI.out.2.2.1, show rtN 0 = 0 from by rw [rtN]; rfl, dig_zero]; exact Own.nil _ _
    · rw [HI.out.2.2.1, Nat.zero_sub, dig_zero]; exact ⟨none, 0, rfl, Or.inl rfl, Nat.le_refl _⟩
  case round =>
    obtain ⟨k, v, u, rfl, rfl, rfl, hk, hOs, hLr, HK⟩ := hrel
    clear f0 f1 f2 f3 f4
    by_cases ck : k = 0
    · subst ck
      rw [Nat.pow_zero, Nat.div_one] at hOs hLr
      have e9 : (((0 : Nat) : Int) - 1) = -1 := by omega
      rw [e9]
      clear HB HI hk
      go_wp2
      exact bodyPost_ret (v := .tuple #[v, u]) (by simp [results, Tryd.results53, go_sem]) rfl ⟨_, _, rfl, hOs, hLr, HK⟩
    · obtain ⟨j, hj⟩ : ∃ j, k = j + 1 := ⟨k - 1, by omega⟩
      subst hj
      have e9 : (((j + 1 : Nat) : Int) - 1) = (j : Int) := by omega
      rw [e9]
      obtain ⟨a, ha⟩ : ∃ a, a = A / 4 ^ (j + 1) := ⟨_, rfl⟩
      obtain ⟨s, hs⟩ : ∃ s, s = rtN a := ⟨_, rfl⟩
      obtain ⟨r, hr⟩ : ∃ r, r = a - s * s := ⟨_, rfl⟩
      rw [← ha, ← hs] at hOs hLr
      rw [← hr] at hLr
      obtain ⟨l0, hl0⟩ : ∃ l0, l0 = 2 * j := ⟨_, rfl⟩
      obtain ⟨l1, hl1⟩ : ∃ l1, l1 = 2 * j + 1 := ⟨_, rfl⟩
      obtain ⟨b1, hb1⟩ : ∃ b1, b1 = A / 2 ^ l1 % 2 := ⟨_, rfl⟩
      obtain ⟨b0, hb0⟩ : ∃ b0, b0 = A / 2 ^ l0 % 2 := ⟨_, rfl⟩
      obtain ⟨c1, hc1⟩ : ∃ c1, c1 = 2 * b1 := ⟨_, rfl⟩
      obtain ⟨b, hb⟩ : ∃ b, b = c1 + b0 := ⟨_, rfl⟩
      have hq := quart A j
      rw [← ha, ← hl1, ← hl0, ← hb1, ← hb0, ← hc1, ← hb] at hq
      have hb19 : b1 < 2 := by rw [hb1]; exact Nat.mod_lt _ (by decide)
      have hb09 : b0 < 2 := by rw [hb0]; exact Nat.mod_lt _ (by decide)
      have hst := sq_step a s r b (by rw [hs]; exact rtN_is a) hr (by omega)
      have hin1 := HI.out.2.1 j (by omega)
      rw [← hl1] at hin1
      have hin0 : l0 / 32 < N := by omega
      have hbA : a ≤ A := by rw [ha]; exact Nat.div_le_self _ _
      have hsa : s ≤ a := by rw [hs]; exact rt_le a
      have hz := HI.out.2.2.2
      have g1 : wrap64 (2 * (j : Int)) = (l0 : Int) := by rw [show 2 * (j : Int) = (l0 : Int) from by omega]; exact w64 _ (by omega) (by have := HI.out.1; omega)
      have g2 : wrap64 ((l0 : Int) + 1) = (l1 : Int) := by rw [show (l0 : Int) + 1 = (l1 : Int) from by omega]; exact w64 _ (by omega) (by have := HI.out.1; omega)
      have g3 : IntKind.u32.wrap (2 * (b1 : Int)) = (c1 : Int) := by rw [IntKind.wrap_u32]; omega
      have g4 : IntKind.u32.wrap ((c1 : Int) + (b0 : Int)) = (b : Int) := by rw [IntKind.wrap_u32]; omega
      have z1 := hz r (by omega)
      have z2 := hz (r * 2 ^ 2) (by omega)
      have z3 := hz s (by omega)
      have z4 := hz (s * 2 ^ 2) (by omega)
      have z5 := hz (4 * r + b) (by omega)
      have z6 := hz (4 * s + 1) (by omega)
      have z7 := hz (s * 2 ^ 1) (by omega)
      have HZ : Hid ((dig r).length ≤ 1048576 ∧ (dig (r * 2 ^ 2)).length ≤ 1048576 ∧ (dig s).length ≤ 1048576 ∧ (dig (s * 2 ^ 2)).length ≤ 1048576 ∧ (dig (4 * r + b)).length ≤ 1048576 ∧ (dig (4 * s + 1)).length ≤ 1048576 ∧ (dig (s * 2 ^ 1)).length ≤ 1048576) := ⟨z1, z2, z3, z4, z5, z6, z7⟩
      have HQ : Hid (A / 4 ^ j = 4 * a + b ∧ b < 4) := ⟨hq, by omega⟩
      have HT : Hid ((4 * s + 1 ≤ 4 * r + b → IsRt (4 * a + b) (2 * s + 1) ∧ 4 * r + b - (4 * s + 1) = 4 * a + b - (2 * s + 1) * (2 * s + 1)) ∧ (4 * r + b < 4 * s + 1 → IsRt (4 * a + b) (2 * s) ∧ 4 * r + b = 4 * a + b - 2 * s * (2 * s))) := hst
      have hB1 := fun w' k => HB.out l1 w' k hin1
      have hB0 := fun w' k => HB.out l0 w' k hin0
      rw [← hb1] at hB1
      rw [← hb0] at hB0
      have HW : Hid (j + 1 ≤ K) := hk
      have G9 : Hid (wrap64 ((j : Int) - 1) = (j : Int) - 1) := dec64 j (by have := HI.out.1; omega)
      clear HB HI hk ck hz z1 z2 z3 z4 z5 z6 z7 hq hst hin1 hin0 hbA hsa ha hs hr hl0 hl1 hb1 hb0 hc1 hb hb19 hb09 e9
      have hOs' : Hid (Own wr w.heap.size v (dig s)) := hOs
      have hLs : Hid (Ls wr v (dig s)) := hOs.ls
      have hLr' : Hid (Ls wr u (dig r)) := hLr
      have HK' : Hid (Kp w wr) := HK
      clear hOs hLr HK
      have hc := leftR u r 2 wr hLr'.out HZ.out.1 (by omega)
      go_wp2_with fail
      refine hc.mono ?_
      rintro e w1 ⟨v1, rfl, hO, hk⟩
      clear hc
      have h1 : Hid (Ls w1 v1 (dig (r * 2 ^ 2))) := hO.ls
      replace hLs : Hid (Ls w1 v (dig s)) := hLs.out.kp hk
      replace HK' : Hid (Kp w w1) := HK'.out.trans hk
      clear hO hk hLr' hOs'
      have hc := hB1 w1 HK'.out
      clear hB1
      go_wp2_with fail
      rw [g1, g2]
      refine hc.mono ?_
      rintro e w1' ⟨rfl, hw'⟩
      obtain rfl := hw'.symm
      clear hc hw'
      have hc := hB0 w1 HK'.out
      clear hB0
      go_wp2_with fail
      rw [g1]
      refine hc.mono ?_
      rintro e w1' ⟨rfl, hw'⟩
      obtain rfl := hw'.symm
      clear hc hw'
      obtain ⟨gl, hgl⟩ : ∃ gl, gl = w1.heap.size := ⟨_, rfl⟩
      obtain ⟨wl, hwl⟩ : ∃ wl, wl = (w1).alloc (.cells #[.int .u32 (b : Int)] 38) := ⟨_, rfl⟩
      have kpl : Kp w1 wl := by rw [hwl]; exact (Kp.refl _).alloc _
      have arl : Arr wl (some ⟨gl, 0, none⟩) [(b : Int)] := by
        have h := (row1 w1 (b : Int)).all rfl
        rw [← hwl] at h
        rw [show gl = w1.heap.size from by exact hgl]
        exact h
      have hl : Hid (Ls wl (.slice (some ⟨gl, 0, none⟩) 1 1) [(b : Int)]) := ⟨some ⟨gl, 0, none⟩, 1, rfl, arl, by simp⟩
      replace h1 : Hid (Ls wl v1 (dig (r * 2 ^ 2))) := h1.out.kp kpl
      replace hLs : Hid (Ls wl v (dig s)) := hLs.out.kp kpl
      replace HK' : Hid (Kp w wl) := HK'.out.trans kpl
      have hc := plusR v1 (.slice (some ⟨gl, 0, none⟩) 1 1) (r * 2 ^ 2) [(b : Int)] wl h1.out hl.out (wd1 b (by have := HQ.out.2; omega)) HZ.out.2.1 (by simp)
      rw [show r * 2 ^ 2 + val [(b : Int)] = 4 * r + b from by simp [val]; omega] at hc
      clear kpl arl
      go_wp2_with fail
      rw [← hgl, ← hwl]
      clear g1 g2 g3 g4
      refine hc.mono ?_
      rintro e w2 ⟨v2, rfl, hO, hk⟩
      clear hc hgl hwl
      have h2 : Hid (Ls w2 v2 (dig (4 * r + b))) := hO.ls
      replace hLs : Hid (Ls w2 v (dig s)) := hLs.out.kp hk
      replace HK' : Hid (Kp w w2) := HK'.out.trans hk
      clear hO hk h1 hl
      have hc := leftR v s 2 w2 hLs.out HZ.out.2.2.1 (by omega)
      go_wp2_with fail
      refine hc.mono ?_
      rintro e w3 ⟨v3, rfl, hO, hk⟩
      clear hc
      have h3 : Hid (Ls w3 v3 (dig (s * 2 ^ 2))) := hO.ls
      replace h2 : Hid (Ls w3 v2 (dig (4 * r + b))) := h2.out.kp hk
      replace hLs : Hid (Ls w3 v (dig s)) := hLs.out.kp hk
      replace HK' : Hid (Kp w w3) := HK'.out.trans hk
      clear hO hk
      obtain ⟨gl, hgl⟩ : ∃ gl, gl = w3.heap.size := ⟨_, rfl⟩
      obtain ⟨wl, hwl⟩ : ∃ wl, wl = (w3).alloc (.cells #[.int .u32 1] 38) := ⟨_, rfl⟩
      have kpl : Kp w3 wl := by rw [hwl]; exact (Kp.refl _).alloc _
      have arl : Arr wl (some ⟨gl, 0, none⟩) [1] := by
        have h := (row1 w3 1).all rfl
        rw [← hwl] at h
        rw [show gl = w3.heap.size from by exact hgl]
        exact h
      have hl : Hid (Ls wl (.slice (some ⟨gl, 0, none⟩) 1 1) [1]) := ⟨some ⟨gl, 0, none⟩, 1, rfl, arl, by simp⟩
      replace h3 : Hid (Ls wl v3 (dig (s * 2 ^ 2))) := h3.out.kp kpl
      replace h2 : Hid (Ls wl v2 (dig (4 * r + b))) := h2.out.kp kpl
      replace hLs : Hid (Ls wl v (dig s)) := hLs.out.kp kpl
      replace HK' : Hid (Kp w wl) := HK'.out.trans kpl
      have hc := plusR v3 (.slice (some ⟨gl, 0, none⟩) 1 1) (s * 2 ^ 2) [1] wl h3.out hl.out (wd1 1 (by omega)) HZ.out.2.2.2.1 (by simp)
      rw [show s * 2 ^ 2 + val [1] = 4 * s + 1 from by simp [val]; omega] at hc
      clear kpl arl
      go_wp2_with fail
      rw [← hgl, ← hwl]
      refine hc.mono ?_
      rintro e w4 ⟨v4, rfl, hO, hk⟩
      clear hc hgl hwl
      have h4 : Hid (Ls w4 v4 (dig (4 * s + 1))) := hO.ls
      replace h2 : Hid (Ls w4 v2 (dig (4 * r + b))) := h2.out.kp hk
      replace hLs : Hid (Ls w4 v (dig s)) := hLs.out.kp hk
      replace HK' : Hid (Kp w w4) := HK'.out.trans hk
      clear hO hk h3 hl
      have hc := leftR v s 1 w4 hLs.out HZ.out.2.2.1 (by omega)
      go_wp2_with fail
      refine hc.mono ?_
      rintro e w5 ⟨v5, rfl, hO, hk⟩
      clear hc
      have O5 : Hid (Own w5 w.heap.size v5 (dig (s * 2 ^ 1))) := hO.mono HK'.out.size
      have h5 : Hid (Ls w5 v5 (dig (s * 2 ^ 1))) := hO.ls
      replace h4 : Hid (Ls w5 v4 (dig (4 * s + 1))) := h4.out.kp hk
      replace h2 : Hid (Ls w5 v2 (dig (4 * r + b))) := h2.out.kp hk
      replace HK' : Hid (Kp w w5) := HK'.out.trans hk
      clear hO hk hLs
      obtain ⟨cc, hcc⟩ : ∃ cc, cc = cmpN (4 * r + b) (4 * s + 1) := ⟨_, rfl⟩
      have hc := cmpR v2 v4 (4 * r + b) (4 * s + 1) w5 h2.out h4.out HZ.out.2.2.2.2.1 HZ.out.2.2.2.2.2.1
      rw [← hcc] at hc
      by_cases cq : 4 * r + b < 4 * s + 1
      · have t3 : ¬ (0 ≤ cc) := by rw [hcc, cmpN_lt cq]; omega
        have hx := HT.out.2 cq
        have HX : Hid (IsRt (4 * a + b) (2 * s) ∧ 4 * r + b = 4 * a + b - 2 * s * (2 * s)) := hx
        clear hcc cq hx HT
        go_wp2_with fail
        refine hc.mono ?_
        rintro e w6 ⟨rfl, hk⟩
        clear hc
        have O6 : Own w6 w.heap.size v5 (dig (rtN (A / 4 ^ j))) := by
          rw [HQ.out.1, ← HX.out.1.eq, Nat.mul_comm 2 s]
          exact O5.out.kp hk
        have L6 : Ls w6 v2 (dig (A / 4 ^ j - rtN (A / 4 ^ j) * rtN (A / 4 ^ j))) := by
          rw [HQ.out.1, ← HX.out.1.eq, ← HX.out.2]
          exact h2.out.kp hk
        have K6 : Kp w w6 := HK'.out.trans hk
        have H6 : Hid (Own w6 w.heap.size v5 (dig (rtN (A / 4 ^ j))) ∧ Ls w6 v2 (dig (A / 4 ^ j - rtN (A / 4 ^ j) * rtN (A / 4 ^ j))) ∧ Kp w w6) := ⟨O6, L6, K6⟩
        clear O6 L6 K6 O5 h5 h4 h2 HK' HX hk HZ HQ
        go_wp2
        exact ⟨⟨j, _, _, by rw [G9.out], rfl, rfl, by have := HW.out; omega, H6.out.1, H6.out.2.1, H6.out.2.2⟩, by simp only [intOf, G9.out]; omega⟩
      · have t3 : 0 ≤ cc := by rw [hcc]; unfold cmpN; rw [if_neg cq]; split <;> omega
        have hx := HT.out.1 (by omega)
        have HX : Hid ((IsRt (4 * a + b) (2 * s + 1) ∧ 4 * r + b - (4 * s + 1) = 4 * a + b - (2 * s + 1) * (2 * s + 1)) ∧ 4 * s + 1 ≤ 4 * r + b) := ⟨hx, by omega⟩
        clear hcc cq hx HT O5
        go_wp2_with fail
        refine hc.mono ?_
        rintro e w6 ⟨rfl, hk⟩
        clear hc
        replace h5 : Hid (Ls w6 v5 (dig (s * 2 ^ 1))) := h5.out.kp hk
        replace h4 : Hid (Ls w6 v4 (dig (4 * s + 1))) := h4.out.kp hk
        replace h2 : Hid (Ls w6 v2 (dig (4 * r + b))) := h2.out.kp hk
        replace HK' : Hid (Kp w w6) := HK'.out.trans hk
        clear hk
        have hc := minusR v2 v4 (4 * r + b) (4 * s + 1) w6 h2.out h4.out HZ.out.2.2.2.2.1 HX.out.2
        go_wp2_with fail
        refine hc.mono ?_
        rintro e w7 ⟨v7, rfl, hO, hk⟩
        clear hc
        have h7 : Hid (Ls w7 v7 (dig (4 * r + b - (4 * s + 1)))) := hO.ls
        replace h5 : Hid (Ls w7 v5 (dig (s * 2 ^ 1))) := h5.out.kp hk
        replace HK' : Hid (Kp w w7) := HK'.out.trans hk
        clear hO hk h4 h2
        obtain ⟨gl, hgl⟩ : ∃ gl, gl = w7.heap.size := ⟨_, rfl⟩
        obtain ⟨wl, hwl⟩ : ∃ wl, wl = (w7).alloc (.cells #[.int .u32 1] 38) := ⟨_, rfl⟩
        have kpl : Kp w7 wl := by rw [hwl]; exact (Kp.refl _).alloc _
        have arl : Arr wl (some ⟨gl, 0, none⟩) [1] := by
          have h := (row1 w7 1).all rfl
          rw [← hwl] at h
          rw [show gl = w7.heap.size from by exact hgl]
          exact h
        have hl : Hid (Ls wl (.slice (some ⟨gl, 0, none⟩) 1 1) [1]) := ⟨some ⟨gl, 0, none⟩, 1, rfl, arl, by simp⟩
        replace h7 : Hid (Ls wl v7 (dig (4 * r + b - (4 * s + 1)))) := h7.out.kp kpl
        replace h5 : Hid (Ls wl v5 (dig (s * 2 ^ 1))) := h5.out.kp kpl
        replace HK' : Hid (Kp w wl) := HK'.out.trans kpl
        have hc := plusR v5 (.slice (some ⟨gl, 0, none⟩) 1 1) (s * 2 ^ 1) [1] wl h5.out hl.out (wd1 1 (by omega)) HZ.out.2.2.2.2.2.2 (by simp)
        rw [show s * 2 ^ 1 + val [1] = 2 * s + 1 from by simp [val]; omega] at hc
        clear kpl arl
        go_wp2_with fail
        rw [← hgl, ← hwl]
        refine hc.mono ?_
        rintro e w8 ⟨v8, rfl, hO, hk⟩
        clear hc hgl hwl
        have H6 : Hid (Own w8 w.heap.size v8 (dig (rtN (A / 4 ^ j))) ∧ Ls w8 v7 (dig (A / 4 ^ j - rtN (A / 4 ^ j) * rtN (A / 4 ^ j))) ∧ Kp w w8) := by
          rw [HQ.out.1, ← HX.out.1.1.eq, ← HX.out.1.2]
          exact ⟨hO.mono HK'.out.size, h7.out.kp hk, HK'.out.trans hk⟩
        clear hO hk h7 h5 hl HK' HX HZ HQ
        go_wp2
        exact ⟨⟨j, _, _, by rw [G9.out], rfl, rfl, by have := HW.out; omega, H6.out.1, H6.out.2.1, H6.out.2.2⟩, by simp only [intOf, G9.out]; omega⟩
set_option maxRecDepth 20000 in
set_option maxHeartbeats 1000000 in
theorem rroot_ (p : Option Addr) (c : Nat) (xs : List Int) (w : World) (hx : Arr w p xs) (hwx : Wd xs) (lx : xs.length ≤ 1048576) :
    Calls Tryd.prog 30 #[.slice p xs.length c] w fun e w' => ∃ v, e = .returned (.tuple #[v, .bool (rootN (val xs)).2.1, .int .i64 (rootN (val xs)).2.2]) ∧ Own w' w.heap.size v (rootN (val xs)).1 ∧ Kp w w' := by
  have l1 := long_ p c xs w hx (by omega)
  have hsq := fun h => rsquare_ p c xs w hx hwx lx h
  have hlx : tl xs = len32 (val xs) := tl_len xs hwx
  obtain ⟨N, hN⟩ : ∃ N, N = xs.length := ⟨_, rfl⟩
  obtain ⟨S, hS⟩ : ∃ S, S = tl xs := ⟨_, rfl⟩
  obtain ⟨V, hV⟩ : ∃ V, V = val xs := ⟨_, rfl⟩
  rw [← hN, ← hS] at l1
  rw [← hN, ← hS, ← hV] at hsq
  rw [← hS, ← hV] at hlx
  rw [← hN, ← hV]
  clear hx hwx lx hN hS hV
  unfold rootN
  by_cases cl : 16384 < len32 V
  · simp only [if_pos cl]
    rw [← hlx] at cl
    rw [decide_eq_true cl] at l1
    clear hsq hlx cl
    go_enter Tryd.func30, Tryd.ntmps30
    go_wp2_with fail
    refine l1.mono ?_; rintro e w' ⟨rfl, hw'⟩; obtain rfl := hw'.symm; clear l1
    go_wp2
    exact bodyPost_ret (v := .tuple #[.slice none 0 0, .bool false, .int .i64 2]) (by simp [results, Tryd.results30, go_sem]) rfl ⟨_, rfl, Own.nil _ _, Kp.refl _⟩
  · simp only [if_neg cl]
    rw [← hlx] at cl
    rw [decide_eq_false cl] at l1
    have hs := hsq (by omega)
    obtain ⟨T, hT⟩ : ∃ T, T = rtN V := ⟨_, rfl⟩
    have hTT := (rtN_is V).1
    rw [← hT] at hs hTT ⊢
    clear hsq hlx cl
    go_enter Tryd.func30, Tryd.ntmps30
    go_wp2_with fail
    refine l1.mono ?_; rintro e w' ⟨rfl, hw'⟩; obtain rfl := hw'.symm; clear l1
    go_wp2_with fail
    refine hs.mono ?_
    rintro e w2 ⟨vs, vr, rfl, hO, ⟨pr, cr, rfl, _, _⟩, hk⟩
    obtain ⟨M, hM⟩ : ∃ M, M = (dig (V - T * T)).length := ⟨_, rfl⟩
    have hb : decide (M = 0) = decide (V = T * T) := by
      have h1 := dig_len_zero (V - T * T)
      rw [← hM] at h1
      rw [decide_eq_decide, h1]
      omega
    rw [← hM]
    have HB : Hid (decide (M = 0) = decide (V = T * T)) := hb
    clear hs hM hb hTT hT
    by_cases c0 : M = 0
    · subst c0
      go_wp2
      exact bodyPost_ret (v := .tuple #[vs, .bool true, .int .i64 0]) (by simp [results, Tryd.results30, go_sem]) rfl ⟨_, by rw [← HB.out]; rfl, hO, hk⟩
    · have t1 : ¬ ((M : Int) = 0) := by omega
      have HC : Hid (M ≠ 0) := c0
      clear c0
      go_wp2
      exact bodyPost_ret (v := .tuple #[vs, .bool false, .int .i64 0]) (by simp [results, Tryd.results30, go_sem, HC.out]) rfl ⟨_, by rw [← HB.out, decide_eq_false HC.out], hO, hk⟩
set_option maxRecDepth 20000 in
theorem nroot_ (p : Option Addr) (c : Nat) (xs : List Int) (w : World) (hx : Arr w p xs) (hwx : Wd xs) (lx : xs.length ≤ 1048576) (hc : xs.length ≤ c) :
    Calls Tryd.prog 20 #[.slice p xs.length c] w fun e w' => ∃ v, e = .returned (.tuple #[v, .bool (rootN (val xs)).2.1, .int .i64 (rootN (val xs)).2.2]) ∧ Own w' w.heap.size v (rootN (val xs)).1 ∧ Kp w w' :=
  nroot_of p c xs w hx hwx lx hc (fun hl => by
    have e1 : nz xs = dig (val xs) := nz_dig xs hwx
    have hA2 : Arr w p (dig (val xs)) := by rw [← e1]; exact hx.take _
    have e2 : tl xs = (dig (val xs)).length := tl_len xs hwx
    have e3 := tl_le xs
    rw [e2]
    exact root_ (val xs) p c w hA2 (by omega) (by omega))
end Go.Proofs.YtjblehmafjcncaaDoor
