import Derived.Test.YtjkbapnndoldgaaKH4Q
import Derived.Test.YtjkbapnndoldgaaKXG4
import Derived.Test.YtjkbapnndoldgaaKXQU
namespace Go.Proofs.Ytjkbapnndoldgaa
open Go.RowKit
set_option maxRecDepth 20000 in
set_option maxHeartbeats 400000 in
theorem thin0_ (w : World) : Calls Try.prog 56 #[.int .u64 0] w fun e w' => e = .returned (.int .u32 0) ∧ w' = w := by
  have h := isinf_ false 0 (by decide) w
  have h' : Calls Try.prog 68 #[.int .u64 0] w fun e w' => e = .returned (.bool false) ∧ w' = w := h
  have b1 : bits BinOp.and IntKind.u64 0 2047 = 0 := by decide +kernel
  clear h
  go_enter Try.func56, Try.ntmps56
  go_wp2_with fail
  refine h'.mono ?_; rintro e w' ⟨rfl, hw'⟩; obtain rfl := hw'.symm; clear h' hw'
  go_wp2
  exact bodyPost_ret (v := .int .u32 0) (by simp [results, Try.results56, go_sem]) rfl ⟨rfl, rfl⟩
set_option maxRecDepth 20000 in
set_option maxHeartbeats 400000 in
theorem thinI_false (w : World) : Calls Try.prog 56 #[.int .u64 9218868437227405312] w fun e w' => e = .returned (.int .u32 2139095040) ∧ w' = w := by
  have h := isinf_ false 9218868437227405312 (by decide) w
  have h' : Calls Try.prog 68 #[.int .u64 9218868437227405312] w fun e w' => e = .returned (.bool true) ∧ w' = w := h
  have b1 : bits BinOp.or IntKind.u32 0 2139095040 = 2139095040 := by decide +kernel
  clear h
  go_enter Try.func56, Try.ntmps56
  go_wp2_with fail
  refine h'.mono ?_; rintro e w' ⟨rfl, hw'⟩; obtain rfl := hw'.symm; clear h' hw'
  go_wp2
  exact bodyPost_ret (v := .int .u32 2139095040) (by simp [results, Try.results56, go_sem]) rfl ⟨rfl, rfl⟩
set_option maxRecDepth 20000 in
set_option maxHeartbeats 400000 in
theorem thinI_true (w : World) : Calls Try.prog 56 #[.int .u64 18442240474082181120] w fun e w' => e = .returned (.int .u32 4286578688) ∧ w' = w := by
  have h := isinf_ true 9218868437227405312 (by decide) w
  have h' : Calls Try.prog 68 #[.int .u64 18442240474082181120] w fun e w' => e = .returned (.bool true) ∧ w' = w := h
  have b1 : bits BinOp.or IntKind.u32 2147483648 2139095040 = 4286578688 := by decide +kernel
  clear h
  go_enter Try.func56, Try.ntmps56
  go_wp2_with fail
  refine h'.mono ?_; rintro e w' ⟨rfl, hw'⟩; obtain rfl := hw'.symm; clear h' hw'
  go_wp2
  exact bodyPost_ret (v := .int .u32 4286578688) (by simp [results, Try.results56, go_sem]) rfl ⟨rfl, rfl⟩
theorem thin_nums (ng : Bool) (X Z Q eN fN g q sg : Nat) (hX : X < 9218868437227405312) (hZ : Z = Fq.wD ng X) (_hQ : Q = Z / 4503599627370496) (_he : eN = X / 4503599627370496) (hf : fN = X % 4503599627370496) (hg : fN / 536870912 = g) (hq : q = g + 8388608) (hq2 : q < 16777216) (hs : sg = if ng = true then 1 else 0) :
    (Z : Int) / 9223372036854775808 = (sg : Int) ∧ IntKind.u64.wrap ((Z : Int) * 4096) = ((fN * 4096 : Nat) : Int) ∧ ((fN * 4096 : Nat) : Int) / 2199023255552 = (g : Int) ∧ bits BinOp.or IntKind.u64 8388608 (g : Int) = (q : Int) ∧ bits BinOp.and IntKind.u32 (q : Int) 8388607 = (g : Int) ∧ Z < 18446744073709551616 := by
  have hZ9 : Z < 18446744073709551616 := by rw [hZ]; unfold Fq.wD; split <;> omega
  refine ⟨?_, ?_, ?_, ?_, ?_, hZ9⟩
  · rw [hZ, hs]; unfold Fq.wD; cases ng <;> simp <;> omega
  · rw [IntKind.wrap_u64, hZ, hf]; unfold Fq.wD; split <;> omega
  · omega
  · have h := u64_or_nat 8388608 g (by decide) (by omega)
    have h2 := or_low g 1 23 (by rw [show (2 : Nat) ^ 23 = 8388608 from by decide]; omega)
    rw [show 1 * 2 ^ 23 = 8388608 from by decide] at h2
    rw [Nat.or_comm, h2, ← hq] at h
    exact h
  · have h := u32_and_nat q 8388607 (by omega) (by decide)
    rw [show (8388607 : Nat) = 2 ^ 23 - 1 from by decide, Nat.and_two_pow_sub_one_eq_mod, show (2 : Nat) ^ 23 = 8388608 from by decide, show q % 8388608 = g from by omega] at h
    exact h
set_option maxRecDepth 20000 in
set_option maxHeartbeats 1000000 in
theorem thin_ (ng : Bool) (X eN q R : Nat) (w : World) (hX : X < 9218868437227405312) (he : eN = X / 4503599627370496) (hg : X % 4503599627370496 / 536870912 = q - 8388608) (hq1 : 8388608 ≤ q) (hq2 : q < 16777216) (e1 : 874 ≤ eN) (e2 : eN ≤ 1150) (hR : R = if 897 ≤ eN then (eN - 897) * 8388608 + q else q / 2 ^ (897 - eN)) :
    Calls Try.prog 56 #[.int .u64 ((Fq.wD ng X : Nat) : Int)] w fun e w' => e = .returned (.int .u32 (((if ng = true then 2147483648 + R else R) : Nat) : Int)) ∧ w' = w := by
  have h := isinf_ ng X (by omega) w
  rw [decide_eq_false (by omega)] at h
  obtain ⟨Z, hZ⟩ : ∃ Z, Z = Fq.wD ng X := ⟨_, rfl⟩
  obtain ⟨Q, hQ⟩ : ∃ Q, Q = Z / 4503599627370496 := ⟨_, rfl⟩
  obtain ⟨fN, hfN⟩ : ∃ fN, fN = X % 4503599627370496 := ⟨_, rfl⟩
  obtain ⟨g, hg9⟩ : ∃ g, g = q - 8388608 := ⟨_, rfl⟩
  obtain ⟨sg, hsg⟩ : ∃ sg : Nat, sg = if ng = true then 1 else 0 := ⟨_, rfl⟩
  rw [← hfN, ← hg9] at hg
  obtain ⟨n1, n2, n3, n4, n5, n6⟩ := thin_nums ng X Z Q eN fN g q sg hX hZ hQ he hfN hg (by omega) hq2 hsg
  obtain ⟨b1, _, _, _, _, _⟩ := fb_bits ng X Z Q eN fN hX hZ hQ he hfN
  have f1 : (Z : Int) / 4503599627370496 = (Q : Int) := by rw [hQ]; exact (Int.natCast_ediv _ _).symm
  obtain ⟨f4, hf4⟩ : ∃ f4 : Nat, f4 = fN * 4096 := ⟨_, rfl⟩
  rw [← hf4] at n2 n3
  obtain ⟨s31, hs31⟩ : ∃ s31 : Nat, s31 = sg * 2147483648 := ⟨_, rfl⟩
  have hs31' : s31 = 0 ∨ s31 = 2147483648 := by rw [hs31, hsg]; cases ng <;> simp
  have m1 : IntKind.u64.wrap ((sg : Int) * 2147483648) = (s31 : Int) := by clear n1 n2 n3 n4 n5 b1 f1; rw [IntKind.wrap_u64]; omega
  have m2 : IntKind.u32.wrap (s31 : Int) = (s31 : Int) := by clear n1 n2 n3 n4 n5 b1 f1; rw [IntKind.wrap_u32]; omega
  have m3 : IntKind.u32.wrap (q : Int) = (q : Int) := by clear n1 n2 n3 n4 n5 b1 f1; rw [IntKind.wrap_u32]; omega
  have HRes : Hid ((if ng = true then 2147483648 + R else R) = s31 + R) := by
    show _ = _
    rw [hs31, hsg]; cases ng <;> simp
  obtain ⟨V, hV⟩ : ∃ V : Nat, V = if ng = true then 2147483648 + R else R := ⟨_, rfl⟩
  rw [← hZ] at h
  rw [← hV, ← hZ]
  have hV2 : V = s31 + R := by rw [hV]; exact HRes.out
  clear HRes hV hZ hQ hfN hsg hf4 hs31 hg hX he n6
  have tz : ((eN : Int) == 0) = false := by simp; omega
  have tz2 : ¬ ((eN : Int) = 0) := by omega
  by_cases ce : 897 ≤ eN
  · rw [if_pos ce] at hR
    obtain ⟨x, hx⟩ : ∃ x : Nat, x = eN - 896 := ⟨_, rfl⟩
    obtain ⟨x2, hx2⟩ : ∃ x2 : Nat, x2 = x * 8388608 := ⟨_, rfl⟩
    obtain ⟨o1, o2⟩ := or_parts s31 x g hs31' (by omega) (by omega)
    rw [← hx2] at o1 o2
    have hVV : V = s31 + x2 + g := by omega
    have p1 : bits BinOp.or IntKind.u32 (s31 : Int) (x2 : Int) = ((s31 + x2 : Nat) : Int) := by
      have h := u32_or_nat s31 x2 (by omega) (by omega)
      rw [o1] at h; exact h
    obtain ⟨y, hy⟩ : ∃ y : Nat, y = s31 + x2 := ⟨_, rfl⟩
    rw [← hy] at p1
    have p2 : bits BinOp.or IntKind.u32 (y : Int) (g : Int) = (V : Int) := by
      have h := u32_or_nat y g (by omega) (by omega)
      rw [hy, o2, ← hVV, ← hy] at h; exact h
    have p3 : IntKind.u32.wrap (x : Int) = (x : Int) := by clear n1 n2 n3 n4 n5 b1 f1 p1 p2 o1 o2; rw [IntKind.wrap_u32]; omega
    have p4 : IntKind.u32.wrap ((x : Int) * 8388608) = (x2 : Int) := by clear n1 n2 n3 n4 n5 b1 f1 p1 p2 o1 o2; rw [IntKind.wrap_u32]; omega
    have p5 : wrap64 ((eN : Int) - 1023) = (eN : Int) - 1023 := by clear n1 n2 n3 n4 n5 b1 f1 p1 p2 o1 o2; exact w64x _ (by omega) (by omega)
    have p6 : wrap64 ((eN : Int) - 1023 + 127) = (x : Int) := by clear n1 n2 n3 n4 n5 b1 f1 p1 p2 o1 o2; rw [show (eN : Int) - 1023 + 127 = (x : Int) from by omega]; exact w64x _ (by omega) (by omega)
    have p7 : (eN : Int) - 1023 + 127 = (x : Int) := by clear n1 n2 n3 n4 n5 b1 f1 p1 p2 o1 o2; omega
    have t1 : -126 ≤ (eN : Int) - 1023 := by omega
    clear o1 o2 hVV hy hx hx2 hR hV2 ce e1 e2 hq1 hq2 hs31' hg9
    go_enter Try.func56, Try.ntmps56
    go_wp2_with fail
    refine h.mono ?_; rintro e w' ⟨rfl, hw'⟩; obtain rfl := hw'.symm; clear h hw'
    go_wp2
    exact bodyPost_ret (v := .int .u32 (V : Int)) (by simp [results, Try.results56, go_sem]) rfl ⟨rfl, rfl⟩
  · rw [if_neg ce] at hR
    obtain ⟨x, hx⟩ : ∃ x : Nat, x = 897 - eN := ⟨_, rfl⟩
    rw [← hx] at hR
    have hRq : R ≤ q := by rw [hR]; exact Nat.div_le_self _ _
    have p1 : bits BinOp.or IntKind.u32 (s31 : Int) (R : Int) = (V : Int) := by
      have h := u32_or_nat s31 R (by omega) (by omega)
      have h2 := or_low R (s31 / 2147483648) 31 (by rw [show (2 : Nat) ^ 31 = 2147483648 from by decide]; omega)
      rw [show (2 : Nat) ^ 31 = 2147483648 from by decide, show s31 / 2147483648 * 2147483648 = s31 from by omega] at h2
      rw [Nat.or_comm, h2, show R + s31 = V from by omega] at h
      exact h
    have p2 : (q : Int) / 2 ^ x = (R : Int) := by rw [hR]; push_cast; rfl
    have p3 : IntKind.u64.wrap (x : Int) = (x : Int) := by clear n1 n2 n3 n4 n5 b1 f1 p1 p2; rw [IntKind.wrap_u64]; omega
    have p5 : wrap64 ((eN : Int) - 1023) = (eN : Int) - 1023 := by clear n1 n2 n3 n4 n5 b1 f1 p1 p2; exact w64x _ (by omega) (by omega)
    have p6 : wrap64 (-126 - ((eN : Int) - 1023)) = (x : Int) := by clear n1 n2 n3 n4 n5 b1 f1 p1 p2; rw [show -126 - ((eN : Int) - 1023) = (x : Int) from by omega]; exact w64x _ (by omega) (by omega)
    have p7 : -126 - ((eN : Int) - 1023) = (x : Int) := by clear n1 n2 n3 n4 n5 b1 f1 p1 p2; omega
    have t1 : ¬ (-126 ≤ (eN : Int) - 1023) := by omega
    have p8 : (q : Int) / 2 ^ min x 32 = (R : Int) := by rw [Nat.min_eq_left (by omega)]; exact p2
    clear hRq hx hR hV2 ce e1 e2 hq1 hq2 hs31' hg9 p2
    go_enter Try.func56, Try.ntmps56
    go_wp2_with fail
    refine h.mono ?_; rintro e w' ⟨rfl, hw'⟩; obtain rfl := hw'.symm; clear h hw'
    go_wp2
    exact bodyPost_ret (v := .int .u32 (V : Int)) (by simp [results, Try.results56, go_sem]) rfl ⟨rfl, rfl⟩
end Go.Proofs.Ytjkbapnndoldgaa
