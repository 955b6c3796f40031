import Derived.Test.YtjblehmafjcncaaDoorProg
import Derived.Test.YtjblehmafjcncaaDoorKXA0
import Derived.Test.YtjblehmafjcncaaDoorKXM
import Derived.Test.YtjblehmafjcncaaDoorKXT
import Derived.Test.YtjblehmafjcncaaDoorKAT
import Derived.Test.YtjblehmafjcncaaDoorKLB
import Derived.Test.YtjblehmafjcncaaDoorKLN
import Derived.Test.YtjblehmafjcncaaDoorKPR
import Derived.Test.YtjblehmafjcncaaDoorKXSL
import Derived.Test.YtjblehmafjcncaaDoorKNF
import Derived.Test.YtjblehmafjcncaaDoorKXQ
import Derived.Test.YtjblehmafjcncaaDoorKTO
import Derived.Test.YtjblehmafjcncaaDoorKHB
import Derived.Test.YtjblehmafjcncaaDoorKXTZ
import Derived.Test.YtjblehmafjcncaaDoorKBW
import Derived.Test.YtjblehmafjcncaaDoorKNSm
import Derived.WalkKit
import Derived.ProofKit
import Derived.RowKit3
import Derived.WalkSpells
import Derived.StillTactics
import Derived.Deep.QuietTactic
import Derived.BigQuiet
import Derived.Below
import Derived.Deep.OwnRows
import Derived.OwnWalk
import Derived.Laws.Bits64b
namespace Go.Proofs.YtjblehmafjcncaaDoor
open Go.RowKit
set_option maxRecDepth 20000 in
set_option maxHeartbeats 1000000 in
theorem rootOfWord_ (v : Nat) (hv : v < 18446744073709551616) (w : World) :
    Calls Tryd.prog 66 #[.int .u64 (v : Int)] w fun e w' => ∃ r, e = .returned r ∧ Two w' w.heap.size (dig (rtN v)) (dig (v - rtN v * rtN v)) r ∧ Kp w w' := by
  have HV : Hid (v < 18446744073709551616) := hv
  clear hv
  go_enter Tryd.func66, Tryd.ntmps66
  go_wp2
  go_loop [4, 7] (fun rr ii => ∃ k r : Nat, rr = .int .u64 (r : Int) ∧ ii = .int .i64 (k : Int) ∧ k ≤ 32 ∧ RI v r (32 - k)) (fun _ i => 32 - (intOf i).toNat)
  case atStart => exact ⟨0, 0, rfl, rfl, by omega, RI.start v HV.out⟩
  case round =>
    obtain ⟨k, r, rfl, rfl, hk, hI⟩ := hrel
    by_cases ck : k < 32
    · obtain ⟨e, he⟩ : ∃ e, e = 31 - k := ⟨_, rfl⟩
      rw [show 32 - k = e + 1 from by omega] at hI
      obtain ⟨h1, h2, h3, h4, h5⟩ := hI.tries
      obtain ⟨P, hP⟩ : ∃ P, P = 2 ^ e := ⟨_, rfl⟩
      obtain ⟨t, ht⟩ : ∃ t, t = r + 2 ^ e := ⟨_, rfl⟩
      have f1 : (31 : Int) - (k : Int) = (e : Int) := by omega
      have f1b : IntKind.i64.wrap (31 - (k : Int)) = (e : Int) := by rw [IntKind.wrap_i64]; omega
      have hPc : ((2 : Int) ^ e) = (P : Int) := by rw [hP]; norm_cast
      have f2 : IntKind.u64.wrap ((2 : Int) ^ e) = (P : Int) := by rw [hPc, IntKind.wrap_u64]; omega
      have f2b : IntKind.u64.wrap (1 * (2 : Int) ^ e) = (P : Int) := by rw [Int.one_mul]; exact f2
      have f3 : bits BinOp.or IntKind.u64 (r : Int) (P : Int) = (t : Int) := by
        rw [bits_or_u64_nat r P (by omega) (by omega), hP, h1, ← ht]
      obtain ⟨S, hS⟩ : ∃ S, S = t * t := ⟨_, rfl⟩
      have f4 : IntKind.u64.wrap ((t : Int) * (t : Int)) = (S : Int) := by
        have e9 : (t : Int) * (t : Int) = (S : Int) := by rw [hS]; exact (Int.natCast_mul t t).symm
        rw [← ht, ← hS] at h3
        rw [e9, IntKind.wrap_u64]; omega
      have i1 : (k : Int) < 32 := by omega
      by_cases ct : S ≤ v
      · have hI2 := hI.up (by rw [← ht, ← hS]; exact ct)
        rw [← ht, show e = 32 - (k + 1) from by omega] at hI2
        have t1 : (S : Int) ≤ (v : Int) := by omega
        have HI : Hid (RI v t (32 - (k + 1)) ∧ k + 1 ≤ 32) := ⟨hI2, by omega⟩
        clear HV hk hI ck he h1 h2 h3 h4 h5 hP ht hS ct hI2 hPc
        go_wp2
        exact ⟨⟨k + 1, t, rfl, by go_num, HI.out.2, HI.out.1⟩, by simp [intOf]; omega⟩
      · have hI2 := hI.stay (by rw [← ht, ← hS]; exact ct)
        rw [show e = 32 - (k + 1) from by omega] at hI2
        have t1 : ¬ (S : Int) ≤ (v : Int) := by omega
        have HI : Hid (RI v r (32 - (k + 1)) ∧ k + 1 ≤ 32) := ⟨hI2, by omega⟩
        clear HV hk hI ck he h1 h2 h3 h4 h5 hP ht hS ct hI2 hPc
        go_wp2
        exact ⟨⟨k + 1, r, rfl, by go_num, HI.out.2, HI.out.1⟩, by simp [intOf]; omega⟩
    · have hk32 : k = 32 := by omega
      subst hk32
      obtain ⟨hd1, hd2⟩ := hI.done
      have hr := hd1.eq
      obtain ⟨S, hS⟩ : ∃ S, S = r * r := ⟨_, rfl⟩
      obtain ⟨D, hD⟩ : ∃ D, D = v - r * r := ⟨_, rfl⟩
      have hSv : S ≤ v := by rw [hS]; exact hd1.1
      have hv := HV.out
      have f4 : IntKind.u64.wrap ((r : Int) * (r : Int)) = (S : Int) := by
        have e9 : (r : Int) * (r : Int) = (S : Int) := by rw [hS]; exact (Int.natCast_mul r r).symm
        rw [e9, IntKind.wrap_u64]; omega
      have f5 : IntKind.u64.wrap ((v : Int) - (S : Int)) = (D : Int) := by rw [IntKind.wrap_u64]; omega
      have hs1 := nsmall_ r (by omega)
      have hs2 := nsmall_ D (by omega)
      have HR : Hid (r = rtN v ∧ D = v - rtN v * rtN v) := ⟨hr, by rw [← hr]; exact hD⟩
      clear HV hk hI ck hd1 hd2 hr hS hD hSv hv
      go_wp2_with fail
      refine (hs1 _).mono ?_
      rintro e w1 ⟨v1, rfl, hO1, hk1⟩
      clear hs1
      go_wp2_with fail
      refine (hs2 _).mono ?_
      rintro e w2 ⟨v2, rfl, hO2, hk2⟩
      obtain ⟨p1, c1, rfl, _⟩ := hO1.len
      obtain ⟨p2, c2, rfl, _⟩ := hO2.len
      have hTwo : Two w2 w.heap.size (dig r) (dig D) (.tuple #[.slice p1 (dig r).length c1, .slice p2 (dig D).length c2]) := by
        refine ⟨p1, c1, p2, c2, rfl, hO1.kp hk2, hO2.mono hk1.size, fun g e e2 => ?_⟩
        subst e e2
        have h1 := hO1.above.2
        have h2 := hO2.above.1
        omega
      have HZ : Hid (Two w2 w.heap.size (dig (rtN v)) (dig (v - rtN v * rtN v)) (.tuple #[.slice p1 (dig r).length c1, .slice p2 (dig D).length c2]) ∧ Kp w w2) := ⟨by rw [← HR.out.2, ← HR.out.1]; exact hTwo, hk1.trans hk2⟩
      obtain ⟨K1, hK1⟩ : ∃ K1, K1 = (dig r).length := ⟨_, rfl⟩
      obtain ⟨K2, hK2⟩ : ∃ K2, K2 = (dig D).length := ⟨_, rfl⟩
      rw [← hK1, ← hK2] at HZ ⊢
      clear hs2 hO1 hO2 hk1 hk2 hTwo hK1 hK2
      go_wp2
      exact bodyPost_ret (v := .tuple #[.slice p1 K1 c1, .slice p2 K2 c2]) (by simp [results, Tryd.results66, go_sem]) rfl ⟨_, rfl, HZ.out.1, HZ.out.2⟩
end Go.Proofs.YtjblehmafjcncaaDoor
