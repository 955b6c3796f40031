import Derived.Test.YtgiffpohngaonaaGreatDoorProg
import Derived.Test.YtgiffpohngaonaaGreatDoorKXA0
import Derived.Test.YtgiffpohngaonaaGreatDoorKXM
import Derived.Test.YtgiffpohngaonaaGreatDoorKXT
import Derived.Test.YtgiffpohngaonaaGreatDoorKXPR
import Derived.Test.YtgiffpohngaonaaGreatDoorKLB
import Derived.Test.YtgiffpohngaonaaGreatDoorKLN
import Derived.Test.YtgiffpohngaonaaGreatDoorKXSL
import Derived.Test.YtgiffpohngaonaaGreatDoorKXNS
import Derived.Test.YtgiffpohngaonaaGreatDoorKXQ
import Derived.Test.YtgiffpohngaonaaGreatDoorKTO
import Derived.Test.YtgiffpohngaonaaGreatDoorKXLB
import Derived.Test.YtgiffpohngaonaaGreatDoorKXTZ
import Derived.Test.YtgiffpohngaonaaGreatDoorKXBW
import Derived.Test.YtgiffpohngaonaaGreatDoorKXNM
import Derived.Test.YtgiffpohngaonaaGreatDoorKW4
import Derived.WalkKit
import Derived.ProofKit
import Derived.RowKit3
import Derived.WalkSpells
import Derived.StillTactics
import Derived.Deep.QuietTactic
import Derived.BigQuiet
import Derived.Below
import Derived.Deep.OwnRows
import Derived.OwnWalk
import Derived.Laws.Bits64b
import Derived.Deep.RegionWith
import Derived.Laws.Slices
import Derived.Laws.BitsAllLaws
namespace Go.Proofs.YtgiffpohngaonaaGreatDoor
open Go.RowKit
set_option maxRecDepth 20000 in
set_option maxHeartbeats 1000000 in
theorem rootOfWord_ (v : Nat) (hv : v < 18446744073709551616) (w : World) :
    Calls Tryz.prog 103 #[.int .u64 (v : Int)] w fun e w' => ∃ r, e = .returned r ∧ Two w' w.heap.size (dig (rtN v)) (dig (v - rtN v * rtN v)) r ∧ Kp w w' := by
  have HV : Hid (v < 18446744073709551616) := hv
  clear hv
  go_enter Tryz.func103, Tryz.ntmps103
  go_wp2
  go_loop [4, 7] (fun rr ii => ∃ k r : Nat, rr = .int .u64 (r : Int) ∧ ii = .int .i64 (k : Int) ∧ k ≤ 32 ∧ RI v r (32 - k)) (fun _ i => 32 - (intOf i).toNat)
  case atStart => exact ⟨0, 0, rfl, rfl, by omega, RI.start v HV.out⟩
  case round =>
    obtain ⟨k, r, rfl, rfl, hk, hI⟩ := hrel
    by_cases ck : k < 32
    · obtain ⟨e, he⟩ : ∃ e, e = 31 - k := ⟨_, rfl⟩
      rw [show 32 - k = e + 1 from by omega] at hI
      obtain ⟨h1, h2, h3, h4, h5⟩ := hI.tries
      obtain ⟨P, hP⟩ : ∃ P, P = 2 ^ e := ⟨_, rfl⟩
      obtain ⟨t, ht⟩ : ∃ t, t = r + 2 ^ e := ⟨_, rfl⟩
      have f1 : (31 : Int) - (k : Int) = (e : Int) := by omega
      have f1b : IntKind.i64.wrap (31 - (k : Int)) = (e : Int) := by rw [IntKind.wrap_i64]; omega
      have hPc : ((2 : Int) ^ e) = (P : Int) := by rw [hP]; norm_cast
      have f2 : IntKind.u64.wrap ((2 : Int) ^ e) = (P : Int) := by rw [hPc, IntKind.wrap_u64]; omega
      have f2b : IntKind.u64.wrap (1 * (2 : Int) ^ e) = (P : Int) := by rw [Int.one_mul]; exact f2
      have f3 : bits BinOp.or IntKind.u64 (r : Int) (P : Int) = (t : Int) := by
        rw [bits_or_u64_nat r P (by omega) (by omega), hP, h1, ← ht]
      obtain ⟨S, hS⟩ : ∃ S, S = t * t := ⟨_, rfl⟩
      have f4 : IntKind.u64.wrap ((t : Int) * (t : Int)) = (S : Int) := by
        have e9 : (t : Int) * (t : Int) = (S : Int) := by rw [hS]; exact (Int.natCast_mul t t).symm
        rw [← ht, ← hS] at h3
        rw [e9, IntKind.wrap_u64]; omega
      have i1 : (k : Int) < 32 := by omega
      by_cases ct : S ≤ v
      · have hI2 := hI.up (by rw [← ht, ← hS]; exact ct)
        rw [← ht, show e = 32 - (k + 1) from by omega] at hI2
        have t1 : (S : Int) ≤ (v : Int) := by omega
        have HI : Hid (RI v t (32 - (k + 1)) ∧ k + 1 ≤ 32) := ⟨hI2, by omega⟩
        clear HV hk hI ck he h1 h2 h3 h4 h5 hP ht hS ct hI2 hPc
        go_wp2
        exact ⟨⟨k + 1, t, rfl, by go_num, HI.out.2, HI.out.1⟩, by simp [intOf]; omega⟩
      · have hI2 := hI.stay (by rw [← ht, ← hS]; exact ct)
        rw [show e = 32 - (k + 1) from by omega] at hI2
        have t1 : ¬ (S : Int) ≤ (v : Int) := by omega
        have HI : Hid (RI v r (32 - (k + 1)) ∧ k + 1 ≤ 32) := ⟨hI2, by omega⟩
        clear HV hk hI ck he h1 h2 h3 h4 h5 hP ht hS ct hI2 hPc
        go_wp2
        exact ⟨⟨k + 1, r, rfl, by go_num, HI.out.2, HI.out.1⟩, by simp [intOf]; omega⟩
    · have hk32 : k = 32 := by omega
      subst hk32
      obtain ⟨hd1, hd2⟩ := hI.done
      have hr := hd1.eq
      obtain ⟨S, hS⟩ : ∃ S, S = r * r := ⟨_, rfl⟩
      obtain ⟨D, hD⟩ : ∃ D, D = v - r * r := ⟨_, rfl⟩
      have hSv : S ≤ v := by rw [hS]; exact hd1.1
      have hv := HV.out
      have f4 : IntKind.u64.wrap ((r : Int) * (r : Int)) = (S : Int) := by
        have e9 : (r : Int) * (r : Int) = (S : Int) := by rw [hS]; exact (Int.natCast_mul r r).symm
        rw [e9, IntKind.wrap_u64]; omega
      have f5 : IntKind.u64.wrap ((v : Int) - (S : Int)) = (D : Int) := by rw [IntKind.wrap_u64]; omega
      have hs1 := nsmall_ r (by omega)
      have hs2 := nsmall_ D (by omega)
      have HR : Hid (r = rtN v ∧ D = v - rtN v * rtN v) := ⟨hr, by rw [← hr]; exact hD⟩
      clear HV hk hI ck hd1 hd2 hr hS hD hSv hv
      go_wp2_with fail
      refine (hs1 _).mono ?_
      rintro e w1 ⟨v1, rfl, hO1, hk1⟩
      clear hs1
      go_wp2_with fail
      refine (hs2 _).mono ?_
      rintro e w2 ⟨v2, rfl, hO2, hk2⟩
      obtain ⟨p1, c1, rfl, _⟩ := hO1.len
      obtain ⟨p2, c2, rfl, _⟩ := hO2.len
      have hTwo : Two w2 w.heap.size (dig r) (dig D) (.tuple #[.slice p1 (dig r).length c1, .slice p2 (dig D).length c2]) := by
        refine ⟨p1, c1, p2, c2, rfl, hO1.kp hk2, hO2.mono hk1.size, fun g e e2 => ?_⟩
        subst e e2
        have h1 := hO1.above.2
        have h2 := hO2.above.1
        omega
      have HZ : Hid (Two w2 w.heap.size (dig (rtN v)) (dig (v - rtN v * rtN v)) (.tuple #[.slice p1 (dig r).length c1, .slice p2 (dig D).length c2]) ∧ Kp w w2) := ⟨by rw [← HR.out.2, ← HR.out.1]; exact hTwo, hk1.trans hk2⟩
      obtain ⟨K1, hK1⟩ : ∃ K1, K1 = (dig r).length := ⟨_, rfl⟩
      obtain ⟨K2, hK2⟩ : ∃ K2, K2 = (dig D).length := ⟨_, rfl⟩
      rw [← hK1, ← hK2] at HZ ⊢
      clear hs2 hO1 hO2 hk1 hk2 hTwo hK1 hK2
      go_wp2
      exact bodyPost_ret (v := .tuple #[.slice p1 K1 c1, .slice p2 K2 c2]) (by simp [results, Tryz.results103, go_sem]) rfl ⟨_, rfl, HZ.out.1, HZ.out.2⟩
set_option maxRecDepth 20000 in
theorem sl32t (b off h N c : Nat) (hc : h ≤ c) (w : World) : (Instr.slice 37 (.slice (some ⟨b, off, none⟩) N c) none (some (.int .i64 (h : Int))) none).run Tryz.prog w = .ok (.slice (some ⟨b, off, none⟩) h c) w := by
  rw [run_slice_h w 37 (some ⟨b, off, none⟩) N c Tryz.underlying37 .i64 (h : Int) (by omega) (by omega)]
  have e : (sizeOf (Tryz.prog.elem 37)).run Tryz.prog w = .ok 1 w := by kernel_rfl
  rw [e]
  simp [Result.andThen, sliced, Addr.add_lit]
set_option maxRecDepth 20000 in
set_option maxHeartbeats 1000000 in
theorem remnant_ (p : Option Addr) (c m : Nat) (xs : List Int) (w : World) (hx : Arr w p xs) (hwx : Wd xs) (lx : xs.length ≤ 1048576) (hc : xs.length ≤ c) (ho : m / 32 < xs.length) :
    Calls Tryz.prog 106 #[.slice p xs.length c, .int .i64 (m : Int)] w fun e w' => ∃ v, e = .returned v ∧ Own w' w.heap.size v (dig (val xs % 2 ^ m)) ∧ Kp w w' := by
  obtain ⟨o, ho9⟩ : ∃ o, o = m / 32 := ⟨_, rfl⟩
  obtain ⟨s, hs⟩ : ∃ s, s = m % 32 := ⟨_, rfl⟩
  rw [← ho9] at ho
  have hms : m = 32 * o + s := by omega
  have hs32 : s < 32 := by omega
  have f1 : (m : Int) / 32 = (o : Int) := by omega
  have f2 : (m : Int) % 32 = (s : Int) := by omega
  obtain ⟨b, off, rfl, hcell⟩ := hx.at (k := o) ho
  have hfr := fresh_ (some ⟨b, off, none⟩) c (xs.take (o + 1)) w (hx.take _) (by rw [List.length_take]; omega)
  have hlt : (xs.take (o + 1)).length = o + 1 := by rw [List.length_take]; omega
  rw [hlt] at hfr
  have wx := hwx o
  obtain ⟨X, hX⟩ : ∃ X : Nat, (X : Int) = xs.getD o 0 := ⟨_, Int.toNat_of_nonneg wx.1⟩
  have hrv := rem_val xs hwx o s X hs32 ho (by rw [← hX]; rfl)
  rw [← hms] at hrv
  have hsl := sl32t b off (o + 1) xs.length c (by omega)
  rw [show ((o + 1 : Nat) : Int) = (o : Int) + 1 from by omega] at hsl
  obtain ⟨P, hP⟩ : ∃ P, P = 2 ^ s := ⟨_, rfl⟩
  have hP0 : 0 < P := by rw [hP]; exact Nat.pow_pos (by omega)
  have hP32 : P < 4294967296 := by
    rw [hP]
    have : (2 : Nat) ^ s < 2 ^ 32 := Nat.pow_lt_pow_right (by decide) hs32
    exact this
  obtain ⟨P1, hP1⟩ : ∃ P1, P1 = P - 1 := ⟨_, rfl⟩
  have hPc : ((2 : Int) ^ s) = (P : Int) := by rw [hP]; norm_cast
  have g1 : IntKind.u32.wrap ((2 : Int) ^ s) = (P : Int) := by rw [hPc, IntKind.wrap_u32]; omega
  have g1b : IntKind.u32.wrap (1 * (2 : Int) ^ s) = (P : Int) := by rw [Int.one_mul]; exact g1
  have g2 : IntKind.u32.wrap ((P : Int) - 1) = (P1 : Int) := by rw [IntKind.wrap_u32]; omega
  obtain ⟨Z, hZ⟩ : ∃ Z, Z = X % 2 ^ s := ⟨_, rfl⟩
  have hZ32 : Z < 4294967296 := by have := Nat.mod_le X (2 ^ s); omega
  have g3 : bits BinOp.and IntKind.u32 (X : Int) (P1 : Int) = (Z : Int) := by
    rw [u32_and_nat X P1 (by omega) (by omega), hP1, hP, Nat.and_two_pow_sub_one_eq_mod, ← hZ]
  rw [← hZ] at hrv
  obtain ⟨ys, hys⟩ : ∃ ys, ys = xs.take (o + 1) := ⟨_, rfl⟩
  rw [← hys] at hfr hlt hrv
  have hwy : Wd ys := by rw [hys]; exact hwx.take _
  have hyX : ys.getD o 0 = (X : Int) := by rw [hys, hX]; simp [List.getD]
  obtain ⟨N, hN⟩ : ∃ N, N = xs.length := ⟨_, rfl⟩
  rw [← hN] at hsl
  rw [← hN]
  have lo : o ≤ 1048576 := by omega
  have i0 : (0 : Int) ≤ (o : Int) := by omega
  have i1 : (o : Int) < (o : Int) + 1 := by omega
  have i2 : (0 : Int) ≤ (s : Int) := by omega
  have HY : Hid (ys.length = o + 1 ∧ Wd ys ∧ ys.getD o 0 = (X : Int) ∧ val (ys.set o (Z : Int)) = val xs % 2 ^ m ∧ Z < 4294967296) := ⟨hlt, hwy, hyX, hrv, hZ32⟩
  clear hx hwx lx hc ho ho9 hs hms hs32 hcell hlt wx hX hrv hP hP0 hP32 hP1 hPc hZ hZ32 hys hwy hyX hN
  go_enter Tryz.func106, Tryz.ntmps106
  go_wp2_with fail
  refine hfr.mono ?_
  rintro e w1 ⟨g, rfl, hg, hR, hk⟩
  obtain ⟨hyl, hwy, hyX, hyv, hZ32⟩ := HY.out
  have e1 := World.rowIs.cell hR (i := o) (by omega)
  rw [hyX] at e1
  have e4 := World.rowIs.frozen hR o
  have hR2 : Rw (w1.setCell ⟨g, o, none⟩ (.int .u32 (Z : Int))).drew g (o + 1) (ys.set o (Z : Int)) := hR.set o (Z : Int) (by omega)
  have hK2 : Kp w (w1.setCell ⟨g, o, none⟩ (.int .u32 (Z : Int))).drew := (hk.setCell hg _).drew
  have hl2 : (ys.set o (Z : Int)).length = o + 1 := by rw [List.length_set]; exact hyl
  have hw2 : Wd (ys.set o (Z : Int)) := hwy.set o Z (by omega)
  have htr := trim_ (some ⟨g, 0, none⟩) (o + 1) (ys.set o (Z : Int)) _ (hR2.all hl2) (by omega) (by omega)
  have hO : Own (w1.setCell ⟨g, o, none⟩ (.int .u32 (Z : Int))).drew w.heap.size (.slice (some ⟨g, 0, none⟩) (tl (ys.set o (Z : Int))) (o + 1)) (dig (val xs % 2 ^ m)) := by
    have h1 := Own.of_row (base := w.heap.size) (k := tl (ys.set o (Z : Int))) hR2 hg (by have := tl_le (ys.set o (Z : Int)); omega) hl2 (by unfold maxLen; omega)
    have h2 : (ys.set o (Z : Int)).take (tl (ys.set o (Z : Int))) = dig (val xs % 2 ^ m) := by rw [← hyv, ← nz_dig _ hw2]; rfl
    rw [h2] at h1
    exact h1
  rw [hl2] at htr
  obtain ⟨T, hT⟩ : ∃ T, T = tl (ys.set o (Z : Int)) := ⟨_, rfl⟩
  rw [← hT] at htr hO
  have HZ : Hid (Own (w1.setCell ⟨g, o, none⟩ (.int .u32 (Z : Int))).drew w.heap.size (.slice (some ⟨g, 0, none⟩) T (o + 1)) (dig (val xs % 2 ^ m)) ∧ Kp w (w1.setCell ⟨g, o, none⟩ (.int .u32 (Z : Int))).drew) := ⟨hO, hK2⟩
  clear hfr HY hyl hwy hyX hyv hZ32 hR2 hK2 hl2 hw2 hO hT hR hk hg hsl
  go_wp2
  first | (go_region_with (fail)) | fail
  all_goals
    clear e1 e4 g1 g1b g2 g3
    go_wp2_with (first | (go_at_call 66; refine htr.mono ?_; rintro e w' ⟨rfl, hw'⟩; obtain rfl := hw'.symm))
    exact bodyPost_ret (v := .slice (some ⟨g, 0, none⟩) T (o + 1)) (by simp [results, Tryz.results106, go_sem]) rfl ⟨_, rfl, HZ.out.1, HZ.out.2⟩
set_option maxRecDepth 20000 in
set_option maxHeartbeats 1000000 in
theorem raised0_ (p : Option Addr) (c : Nat) (m : Int) (w : World) :
    Calls Tryz.prog 69 #[.slice p 0 c, .int .i64 m] w fun e w' => ∃ v, e = .returned v ∧ Own w' w.heap.size v [] ∧ Kp w w' := by
  go_enter Tryz.func69, Tryz.ntmps69
  go_wp2
  exact bodyPost_ret (v := .slice none 0 0) (by simp [results, Tryz.results69, go_sem]) rfl ⟨_, rfl, Own.nil _ _, Kp.refl _⟩
end Go.Proofs.YtgiffpohngaonaaGreatDoor
