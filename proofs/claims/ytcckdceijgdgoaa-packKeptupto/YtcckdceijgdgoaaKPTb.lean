import Derived.Test.YtcckdceijgdgoaaKPTj
import Derived.Test.YtcckdceijgdgoaaKPTx
import Derived.Deep.CutBlock
namespace Go.Proofs.Ytcckdceijgdgoaa
open Go.RowKit
open Go
namespace B8
set_option linter.unusedVariables false
set_option maxRecDepth 20000 in
set_option maxHeartbeats 4000000 in
theorem keptlaw_ (p : Option Addr) (c N : Nat) (ls : List (Nat × Nat)) (w : World) (hx : AG ULV w p ls) (hN : ls.length = N) (hw : Wq ls) (lx : N ≤ 1048576) : Calls Try.prog 6 #[.slice p N c] w fun e w' => e = .returned (.bool true) ∧ Kp w w' := by
  have HL : Hid (AG ULV w p ls ∧ ls.length = N ∧ Wq ls) := ⟨hx, hN, hw⟩
  clear hx hN hw
  go_enter Try.func6, Try.ntmps6
  go_wp2_with (first | (go_at_call 8; refine (awake_ _).mono ?_; rintro e wa ⟨rfl, ka⟩))
  go_loopw [3, 4] (fun a i wr => ∃ (v : Value) (j : Nat) (ks : List (Nat × Nat)), v = a ∧ j ≤ N ∧ j ≤ 40 ∧ i = .int .i64 j ∧ ks.length = 6 * j ∧ KS wr w.heap.size v ks 0 ∧ Kp w wr) (fun _ i _ => 40 - (intOf i).toNat)
  case atStart => exact ⟨_, 0, [], rfl, Nat.zero_le _, Nat.zero_le _, rfl, rfl, KS.nil _ _, ka⟩
  case round =>
    obtain ⟨v, j, ks, rfl, hjN, hj40, rfl, hlk, hks, hkp⟩ := hrel
    clear ka
    rcases (by omega : (j < N ∧ j < 40 ∧ j = 0) ∨ (j < N ∧ j < 40 ∧ 0 < j) ∨ ¬ j < N ∨ (j < N ∧ ¬ j < 40)) with ⟨c1, c2, cz⟩ | ⟨c1, c2, cz⟩ | c1 | ⟨c1, c2⟩
    · subst cz
      have t1 : (0 : Int) < (N : Int) := by omega
      go_upto_block 1 with fail
      refine wp_block ?_
      refine keptZ _ p c N ls w HL lx _ ks wr hlk hks hkp c1 _ _ _ _ _ _ _ _ _ _ _ _ _ _ _ _ _ _ _ _ _ _ _ _ _ _ _ _ _ _ _ _ _ _ _ _ _ _ _ _ _ _ _ _ _ _ _ _ _ _ _ _ _ _ _ _ _ _ _ _ _ _ _ _ _ _ _ _ _ _ _ _ _ _ _ _ _ _ _ _ _ _ _ _ _ _ _ _ _ _ _ _ _ _ _ _ _ _ _ _ _ _ _ _ _ _ _ _ _ _ _ _ _ _ _ _ _ _ _ _ _ _ _ _ _ _ _ _ _ _ _ _ _ _ _ _ _ _ _ _ _ _ _ _ _ _ _ _ _ _ _ _ _ _ _ _ _ _ _ _ _ _ _ _ _ _ _ _ _ _ _ _ _ _ _ _ _ _ _ _ _ _ _ _ _ _ _ _ _ _ _ _ _ _ _ _ _ _ _ _ _ _ _ _ _ _ _ _ _ _ _ _ _ _ _ _ _ _ _ _ _ _ _ _ _ _ _ _ _ _ _ _ _ _ _ _ _ _ _ _ _ _ _ _ _ _ _ _ _ _ ?_
      intro x2 x3 x5 x6 x7 x8 x9 x10 x31 x32 x33 x34 x35 x36 x37 x38 x39 x40 x41 x42 x43 x44 x45 x46 x47 x48 x49 x50 x51 x52 x53 x54 x55 x56 x57 x58 x59 x60 x61 x62 x63 x64 x65 x66 x67 x68 x69 x70 x71 x72 x73 x74 x75 x76 x77 x78 x79 x80 x81 x82 x83 x84 x85 x86 x87 x88 x89 x90 x91 x92 x93 x94 x95 x96 x97 x98 x99 x100 x101 x102 x103 x104 x105 x106 x107 x108 x109 x110 x111 x112 x113 x114 x115 x116 x117 x118 x119 x120 x121 x122 x123 x124 x125 x126 x127 x128 x129 x130 x131 x132 x133 x134 x135 x136 x137 x138 x139 x140 x141 w' ks' h1 h2 h3
      have HZ : Hid (ks'.length = 6 ∧ KS w' w.heap.size x3 ks' 0 ∧ Kp w w') := ⟨h1, h2, h3⟩
      clear h1 h2 h3 hks hkp hlk
      go_wp2
      exact ⟨⟨_, 1, ks', rfl, by omega, by omega, rfl, HZ.out.1, HZ.out.2.1, HZ.out.2.2⟩, by simp [intOf]⟩
    · have t1 : (j : Int) < (N : Int) := by omega
      have t2 : (j : Int) < 40 := by omega
      go_upto_block 1 with fail
      refine wp_block ?_
      refine keptJ _ p c N ls w HL lx _ j ks wr hlk hks hkp c1 c2 cz _ _ _ _ _ _ _ _ _ _ _ _ _ _ _ _ _ _ _ _ _ _ _ _ _ _ _ _ _ _ _ _ _ _ _ _ _ _ _ _ _ _ _ _ _ _ _ _ _ _ _ _ _ _ _ _ _ _ _ _ _ _ _ _ _ _ _ _ _ _ _ _ _ _ _ _ _ _ _ _ _ _ _ _ _ _ _ _ _ _ _ _ _ _ _ _ _ _ _ _ _ _ _ _ _ _ _ _ _ _ _ _ _ _ _ _ _ _ _ _ _ _ _ _ _ _ _ _ _ _ _ _ _ _ _ _ _ _ _ _ _ _ _ _ _ _ _ _ _ _ _ _ _ _ _ _ _ _ _ _ _ _ _ _ _ _ _ _ _ _ _ _ _ _ _ _ _ _ _ _ _ _ _ _ _ _ _ _ _ _ _ _ _ _ _ _ _ _ _ _ _ _ _ _ _ _ _ _ _ _ _ _ _ _ _ _ _ _ _ _ _ _ _ _ _ _ _ _ _ _ _ _ _ _ _ _ _ _ _ _ _ _ _ _ _ _ _ _ _ _ ?_
      intro x2 x3 x5 x6 x7 x8 x9 x10 x31 x32 x33 x34 x35 x36 x37 x38 x39 x40 x41 x42 x43 x44 x45 x46 x47 x48 x49 x50 x51 x52 x53 x54 x55 x56 x57 x58 x59 x60 x61 x62 x63 x64 x65 x66 x67 x68 x69 x70 x71 x72 x73 x74 x75 x76 x77 x78 x79 x80 x81 x82 x83 x84 x85 x86 x87 x88 x89 x90 x91 x92 x93 x94 x95 x96 x97 x98 x99 x100 x101 x102 x103 x104 x105 x106 x107 x108 x109 x110 x111 x112 x113 x114 x115 x116 x117 x118 x119 x120 x121 x122 x123 x124 x125 x126 x127 x128 x129 x130 x131 x132 x133 x134 x135 x136 x137 x138 x139 x140 x141 w' ks' h1 h2 h3
      have HZ : Hid (ks'.length = 6 * j + 6 ∧ KS w' w.heap.size x3 ks' 0 ∧ Kp w w') := ⟨h1, h2, h3⟩
      clear h1 h2 h3 hks hkp hlk
      go_wp2
      exact ⟨⟨_, j + 1, ks', rfl, by omega, by omega, by go_num, by rw [HZ.out.1]; omega, HZ.out.2.1, HZ.out.2.2⟩, by simp [intOf]; omega⟩
    · have t1 : ¬ ((j : Int) < (N : Int)) := by omega
      have HZ : Hid (ks.length = 6 * j ∧ KS wr w.heap.size v ks 0 ∧ Kp w wr) := ⟨hlk, hks, hkp⟩
      clear hlk hks hkp
      rename_i Q0 K0 hK0
      have HK : Hid (∀ (a : Act) (w : World), Code.wp Try.prog (dropC 4 (Try.f6.body.getD .skip)) Q0 a w → K0 a w) := hK0
      clear hK0
      go_wp2_with fail
      exact HK.out _ _ (keptE p c N ls w HL lx _ j ks wr hjN hj40 HZ.out.1 HZ.out.2.1 HZ.out.2.2 _ _ _ _ _ _ _ _ _ _ _ _ _ _ _ _ _ _ _ _ _ _ _ _ _ _ _ _ _ _ _ _ _ _ _ _ _ _ _ _ _ _ _ _ _ _ _ _ _ _ _ _ _ _ _ _ _ _ _ _ _ _ _ _ _ _ _ _ _ _ _ _ _ _ _ _ _ _ _ _ _ _ _ _ _ _ _ _ _ _ _ _ _ _ _ _ _ _ _ _ _ _ _ _ _ _ _ _ _ _ _ _ _ _ _ _ _ _ _ _ _ _ _ _ _ _ _ _ _ _ _ _ _ _ _ _ _ _ _ _ _ _ _ _ _ _ _ _ _ _ _ _ _ _ _ _ _ _ _ _ _ _ _ _ _ _ _ _ _ _ _ _ _ _ _ _ _ _ _ _ _ _ _ _ _ _ _ _ _ _ _ _ _ _ _ _ _ _ _ _ _ _ _ _ _ _ _ _ _ _ _ _ _ _ _ _ _ _ _ _ _ _ _ _ _ _ _ _ _ _ _ _ _ _ _ _ _ _ _ _ _ _ _ _ _ _ _ _ _ _ _)
    · have t1 : (j : Int) < (N : Int) := by omega
      have t2 : ¬ ((j : Int) < 40) := by omega
      have HZ : Hid (ks.length = 6 * j ∧ KS wr w.heap.size v ks 0 ∧ Kp w wr) := ⟨hlk, hks, hkp⟩
      clear hlk hks hkp
      rename_i Q0 K0 hK0
      have HK : Hid (∀ (a : Act) (w : World), Code.wp Try.prog (dropC 4 (Try.f6.body.getD .skip)) Q0 a w → K0 a w) := hK0
      clear hK0
      go_wp2_with fail
      exact HK.out _ _ (keptE p c N ls w HL lx _ j ks wr hjN hj40 HZ.out.1 HZ.out.2.1 HZ.out.2.2 _ _ _ _ _ _ _ _ _ _ _ _ _ _ _ _ _ _ _ _ _ _ _ _ _ _ _ _ _ _ _ _ _ _ _ _ _ _ _ _ _ _ _ _ _ _ _ _ _ _ _ _ _ _ _ _ _ _ _ _ _ _ _ _ _ _ _ _ _ _ _ _ _ _ _ _ _ _ _ _ _ _ _ _ _ _ _ _ _ _ _ _ _ _ _ _ _ _ _ _ _ _ _ _ _ _ _ _ _ _ _ _ _ _ _ _ _ _ _ _ _ _ _ _ _ _ _ _ _ _ _ _ _ _ _ _ _ _ _ _ _ _ _ _ _ _ _ _ _ _ _ _ _ _ _ _ _ _ _ _ _ _ _ _ _ _ _ _ _ _ _ _ _ _ _ _ _ _ _ _ _ _ _ _ _ _ _ _ _ _ _ _ _ _ _ _ _ _ _ _ _ _ _ _ _ _ _ _ _ _ _ _ _ _ _ _ _ _ _ _ _ _ _ _ _ _ _ _ _ _ _ _ _ _ _ _ _ _ _ _ _ _ _ _ _ _ _ _ _ _ _)
end B8
end Go.Proofs.Ytcckdceijgdgoaa
