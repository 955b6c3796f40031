import Derived.Test.YtnjlcfpkhgmjeaaGreatDoorKTOa
namespace Go.Proofs.YtnjlcfpkhgmjeaaGreatDoor
open Go.RowKit

theorem pow64 (u : Nat) (hu : u < 64) : 18446744073709551616 = 2 ^ (64 - u) * 2 ^ u := by
  rw [← Nat.pow_add, show 64 - u + u = 64 by omega]
theorem lay_hi (h u : Nat) (hu : u < 64) : h * 2 ^ u / 18446744073709551616 = h / 2 ^ (64 - u) := by
  rw [pow64 u hu, Nat.mul_div_mul_right _ _ (Nat.two_pow_pos u)]
theorem lay_or (h l u : Nat) (hu : u < 64) (hl : l < 18446744073709551616) : (h * 2 ^ u % 18446744073709551616) ||| (l / 2 ^ (64 - u)) = h * 2 ^ u % 18446744073709551616 + l * 2 ^ u / 18446744073709551616 ∧ h * 2 ^ u % 18446744073709551616 + l * 2 ^ u / 18446744073709551616 < 18446744073709551616 := by
  have e : h * 2 ^ u % 18446744073709551616 = 2 ^ u * (h % 2 ^ (64 - u)) := by
    rw [pow64 u hu, Nat.mul_mod_mul_right, Nat.mul_comm]
  have lt : l / 2 ^ (64 - u) < 2 ^ u := by
    rw [Nat.div_lt_iff_lt_mul (Nat.two_pow_pos _), Nat.mul_comm, ← pow64 u hu]; exact hl
  rw [lay_hi l u hu, e]
  refine ⟨(Nat.two_pow_add_eq_or_of_lt lt _).symm, ?_⟩
  have m := Nat.mod_lt h (Nat.two_pow_pos (64 - u))
  have p := pow64 u hu
  have q := Nat.mul_le_mul_left (2 ^ u) (show h % 2 ^ (64 - u) + 1 ≤ 2 ^ (64 - u) from m)
  rw [Nat.mul_add, Nat.mul_one, Nat.mul_comm (2 ^ u) (2 ^ (64 - u)), ← p] at q
  generalize 2 ^ u * (h % 2 ^ (64 - u)) = a at *
  generalize l / 2 ^ (64 - u) = d at *
  omega
def PS (P0 P1 P2 o k : Nat) : Nat := if k = 0 then 0 else if k = 1 then P0 * 18446744073709551616 ^ o else if k = 2 then P0 * 18446744073709551616 ^ o + P1 * 18446744073709551616 ^ (o + 1) else P0 * 18446744073709551616 ^ o + P1 * 18446744073709551616 ^ (o + 1) + P2 * 18446744073709551616 ^ (o + 2)
theorem PS_all (h l u o : Nat) : PS (l * 2 ^ u % 18446744073709551616) (h * 2 ^ u % 18446744073709551616 + l * 2 ^ u / 18446744073709551616) (h * 2 ^ u / 18446744073709551616) o 3 = (h * 18446744073709551616 + l) * 2 ^ (o * 64 + u) := by
  have e := parts3 h l u
  unfold PS
  rw [if_neg (by decide), if_neg (by decide), if_neg (by decide)]
  have pw : 2 ^ (o * 64 + u) = 18446744073709551616 ^ o * 2 ^ u := by rw [Nat.pow_add, Nat.mul_comm o 64, Nat.pow_mul, show (2 : Nat) ^ 64 = 18446744073709551616 from rfl]
  rw [pw, Nat.pow_add, Nat.pow_add, Nat.pow_one, show 18446744073709551616 ^ 2 = 18446744073709551616 * 18446744073709551616 from rfl]
  generalize h * 18446744073709551616 + l = X at *
  generalize h * 2 ^ u % 18446744073709551616 + l * 2 ^ u / 18446744073709551616 = b1 at *
  generalize l * 2 ^ u % 18446744073709551616 = a1 at *
  generalize h * 2 ^ u / 18446744073709551616 = c1 at *
  generalize 18446744073709551616 ^ o = Q at *
  rw [show X * (Q * 2 ^ u) = X * 2 ^ u * Q by rw [Nat.mul_comm Q, Nat.mul_assoc], ← e, Nat.add_mul, Nat.add_mul, Nat.mul_comm Q 18446744073709551616, Nat.mul_comm Q (18446744073709551616 * 18446744073709551616)]
  simp only [Nat.mul_assoc]
theorem wrapJ (a k j : Nat) (h : j = a + k) (hj : j < 9223372036854775808) : wrap64 ((a : Int) + (k : Int)) = (j : Int) := by unfold wrap64; omega
theorem wrapE (e : Int) (m : Nat) (h : e = (m : Int)) (hj : m < 9223372036854775808) : wrap64 e = (m : Int) := by rw [h]; unfold wrap64; omega
theorem cshl (x s : Nat) : (x : Int) * 2 ^ s = ((x * 2 ^ s : Nat) : Int) := by simp
theorem cshr (x s : Nat) : (x : Int) / 2 ^ s = ((x / 2 ^ s : Nat) : Int) := by simp
theorem idx3 (P0 P1 P2 k : Nat) (hk : k < 3) : ∃ Pk : Nat, (P0 < 18446744073709551616 → P1 < 18446744073709551616 → P2 < 18446744073709551616 → Pk < 18446744073709551616) ∧ (∀ o, PS P0 P1 P2 o k + Pk * 18446744073709551616 ^ (o + k) = PS P0 P1 P2 o (k + 1)) ∧ ∀ w : World, (Instr.index 23 (.agg #[.int .u64 (P0 : Int), .int .u64 (P1 : Int), .int .u64 (P2 : Int)]) (.int .i64 (k : Int))).run Tryz.prog w = .ok (.int .u64 (Pk : Int)) w := by
  have h3 : k = 0 ∨ k = 1 ∨ k = 2 := by omega
  rcases h3 with rfl | rfl | rfl
  · exact ⟨P0, fun a _ _ => a, fun o => by unfold PS; simp, fun w => by kernel_rfl⟩
  · exact ⟨P1, fun _ a _ => a, fun o => by unfold PS; simp, fun w => by kernel_rfl⟩
  · exact ⟨P2, fun _ _ a => a, fun o => by unfold PS; simp, fun w => by kernel_rfl⟩
theorem idxW (C : Array Value) (k : Nat) (v : Value) (hk : k < 67) (hv : C[k]? = some v) (w : World) : (Instr.index 53 (.agg C) (.int .i64 (k : Int))).run Tryz.prog w = .ok v w := by
  simp [Instr.index, asIntOf, run_underlying undW, part, hk, hv]
set_option maxRecDepth 20000 in
set_option maxHeartbeats 1000000 in
theorem lay_ (neg : Bool) (h l at9 up : Nat) (exp : Int) (hh : h < 18446744073709551616) (hl : l < 18446744073709551616) (he : exp + 2148 = ((at9 * 64 + up : Nat) : Int)) (hup : up < 64) (hat : at9 ≤ 64) (b : Nat) (ws : List Nat) (X : Array Value) (t : TypeId) (V : Int) (hV : Rep ws V) (w : World) (hb : Bk w b (wc ws ++ X) t) :
    Calls Tryz.prog 42 #[.pointer (some ⟨b, 0, none⟩), .bool neg, .int .u64 (h : Int), .int .u64 (l : Int), .int .i64 exp] w fun e w' => ∃ ws' : List Nat, (∃ v, e = .returned v) ∧ Bk w' b (wc ws' ++ X) t ∧ Rep ws' (V + sgI neg * (((h * 18446744073709551616 + l) * 2 ^ (at9 * 64 + up) : Nat) : Int)) ∧ Kb b w w' := by
  obtain ⟨m, hm⟩ : ∃ m, m = at9 * 64 + up := ⟨_, rfl⟩
  rw [← hm] at he
  have g1 : wrap64 (exp + 2148) = (m : Int) := wrapE _ _ he (by omega)
  have g2 : (m : Int) / 64 = (at9 : Int) := by omega
  have g3 : (m : Int) % 64 = (up : Int) := by omega
  have g4 : m < 9223372036854775808 := by omega
  have lo := lay_or h l up hup hl
  have hi := lay_hi h up hup
  rw [← PS_all h l up at9]
  have p0 : l * 2 ^ up % 18446744073709551616 < 18446744073709551616 := Nat.mod_lt _ (by decide)
  have p2 : h * 2 ^ up / 18446744073709551616 < 18446744073709551616 := by rw [hi]; exact Nat.lt_of_le_of_lt (Nat.div_le_self _ _) hh
  have g5 : IntKind.u64.wrap ((l : Int) * 2 ^ up) = ((l * 2 ^ up % 18446744073709551616 : Nat) : Int) := by rw [IntKind.wrap_u64, cshl]; rfl
  have g6 : IntKind.u64.wrap ((h : Int) * 2 ^ up) = ((h * 2 ^ up % 18446744073709551616 : Nat) : Int) := by rw [IntKind.wrap_u64, cshl]; rfl
  have g7 : (l : Int) / 2 ^ (64 - up) = ((l / 2 ^ (64 - up) : Nat) : Int) := cshr _ _
  have g8 : (h : Int) / 2 ^ (64 - up) = ((h * 2 ^ up / 18446744073709551616 : Nat) : Int) := by rw [hi]; exact cshr _ _
  have g9 : bits .or .u64 ((h * 2 ^ up % 18446744073709551616 : Nat) : Int) ((l / 2 ^ (64 - up) : Nat) : Int) = ((h * 2 ^ up % 18446744073709551616 + l * 2 ^ up / 18446744073709551616 : Nat) : Int) := by
    rw [bits_or_u64_nat _ _ (Nat.mod_lt _ (by decide)) (Nat.lt_of_le_of_lt (Nat.div_le_self _ _) hl), lo.1]
  have p1 := lo.2
  generalize h * 2 ^ up % 18446744073709551616 + l * 2 ^ up / 18446744073709551616 = P1 at *
  generalize h * 2 ^ up / 18446744073709551616 = P2 at *
  generalize l * 2 ^ up % 18446744073709551616 = P0 at *
  generalize h * 2 ^ up % 18446744073709551616 = A1 at *
  generalize l / 2 ^ (64 - up) = B1 at *
  have hflip := flipOf_ neg
  have HB : Hid (Bk w b (wc ws ++ X) t ∧ Rep ws V) := ⟨hb, hV⟩
  have HP : Hid (P0 < 18446744073709551616 ∧ P1 < 18446744073709551616 ∧ P2 < 18446744073709551616) := ⟨p0, p1, p2⟩
  have HA : Hid (at9 ≤ 64) := hat
  clear hm lo hi he hb hV p0 p1 p2 hh hl
  go_enter Tryz.func42, Tryz.ntmps42
  go_wp2_with (first | (go_at_call 76; refine (hflip _).mono ?_; rintro e w' ⟨rfl, rfl⟩))
  clear g1 g2 g3 g5 g6 g7 g8 g9 hflip
  go_loopw [15, 45] (fun cc ii wr => ∃ (k c : Nat) (us : List Nat), cc = .int .u64 (c : Int) ∧ ii = .int .i64 (k : Int) ∧ k ≤ 3 ∧ Lay ws us (sgI neg) (at9 + k) c (PS P0 P1 P2 at9 k) ∧ Bk wr b (wc us ++ X) t ∧ Kb b w wr) (fun _ i _ => 3 - (intOf i).toNat)
  case atStart =>
    obtain ⟨hb, hV⟩ := HB.out
    exact ⟨0, 0, ws, rfl, rfl, by omega, Lay.start _ hV.1 hV.2.1, hb.alloc _, Kb.of ((Kp.refl w).alloc _)⟩
  case round =>
    obtain ⟨k, c, us, rfl, rfl, hk, hL, hB, hK⟩ := hrel
    obtain ⟨p0, p1, p2⟩ := HP.out
    have hat := HA.out
    by_cases ck : k < 3
    · obtain ⟨Pk, pk, hPS, ix⟩ := idx3 P0 P1 P2 k ck
      have pk := pk p0 p1 p2
      have hy := hL.2.1 (at9 + k)
      have e1 := hB.word (at9 + k) (by rw [hL.1]; omega)
      have e2 := hB.frozen (at9 + k)
      obtain ⟨x, c2, hx, hc2, hxe, hst⟩ := step_ neg (us.getD (at9 + k) 0) Pk c hy pk hL.2.2.1
      have hL2 : Lay ws (us.set (at9 + k) x) (sgI neg) (at9 + (k + 1)) c2 (PS P0 P1 P2 at9 k + Pk * 18446744073709551616 ^ (at9 + k)) := hL.next (by omega) Pk x c2 hx hc2 hxe
      have hB2 := hB.setw (at9 + k) x (by rw [hL.1]; omega)
      have hK2 := hK.setCell (at9 + k) (.int .u64 (x : Int))
      rw [hPS] at hL2
      obtain ⟨j, hj⟩ : ∃ j, j = at9 + k := ⟨_, rfl⟩
      rw [← hj] at e1 e2 hst hB2 hK2 hL2
      have j3 : (j : Int) < 67 := by omega
      have j4 : j < 67 := by omega
      have j5 : (k : Int) < 3 := by omega
      have j6 : k + 1 ≤ 3 := by omega
      have j7 : 3 - (k + 1) < 3 - k := by omega
      have j1 : wrap64 ((at9 : Int) + (k : Int)) = (j : Int) := wrapJ _ _ _ hj (Nat.lt_trans j4 (by decide))
      have j2 : IntKind.i64.wrap ((at9 : Int) + (k : Int)) = (j : Int) := by rw [IntWalk.i64_left]; exact j1
      generalize us.getD j 0 = y at *
      clear hL hB hK hxe hy hx hc2 hj hk pk hPS p0 p1 p2
      go_wp2_with (fail)
      first | (go_region_with (go_at_call 77; refine (hst _).mono ?_; rintro e w' ⟨rfl, hw'⟩; obtain rfl := hw'.symm)) | fail
      all_goals (
        go_wp2
        exact ⟨⟨k + 1, c2, us.set j x, rfl, by go_num, j6, hL2, hB2.drew, hK2.drew⟩, (show 3 - (k + 1) < 3 - k from j7)⟩)
    · have hk3 : k = 3 := by omega
      have j1 : wrap64 ((at9 : Int) + 3) = ((at9 + 3 : Nat) : Int) := wrapJ at9 3 _ rfl (by omega)
      have hL : Lay ws us (sgI neg) (at9 + 3) c (PS P0 P1 P2 at9 3) := by rw [hk3] at hL; exact hL
      have t3 : ¬ ((k : Int) < 3) := by omega
      clear hk hk3 ck
      obtain ⟨j0, hj0⟩ : ∃ j0, j0 = at9 + 3 := ⟨_, rfl⟩
      rw [← hj0] at hL j1
      have hj67 : j0 ≤ 67 := by omega
      have HJ : Hid (j0 = at9 + 3) := hj0
      clear hj0
      go_wp2_with (fail)
      clear j1
      go_loopw [15, 18] (fun cc ii wr => ∃ (k c : Nat) (us : List Nat), cc = .int .u64 (c : Int) ∧ ii = .int .i64 (k : Int) ∧ k ≤ 67 ∧ Lay ws us (sgI neg) k c (PS P0 P1 P2 at9 3) ∧ Bk wr b (wc us ++ X) t ∧ Kb b w wr) (fun _ i _ => 67 - (intOf i).toNat)
      case atStart => exact ⟨j0, c, us, rfl, (by rw [HJ.out]; rfl), hj67, hL, hB, hK⟩
      case round =>
        clear hL hB hK hj67
        obtain ⟨k, c1, us1, rfl, rfl, hk, hL, hB, hK⟩ := hrel
        rcases Nat.eq_zero_or_pos c1 with hc | hc
        · have hR := ((show Lay ws us1 (sgI neg) k 0 (PS P0 P1 P2 at9 3) from hc ▸ hL).quick 67).rep HB.out.2
          have t0 : ¬ ((0 : Int) < (c1 : Int)) := by omega
          clear hc hk
          go_wp2_with (fail)
          exact bodyPost_end (v := .tuple #[]) (by simp [results, Tryz.results42, go_sem]) rfl (by first | exact ⟨⟨_, rfl⟩, us1, hB, hR, hK⟩ | exact ⟨us1, ⟨_, rfl⟩, hB, hR, hK⟩)
        · have t0 : (0 : Int) < (c1 : Int) := by omega
          by_cases ck : k < 67
          · have hy := hL.2.1 k
            have e1 := hB.word k (by rw [hL.1]; omega)
            have e2 := hB.frozen k
            obtain ⟨x, c2, hx, hc2, hxe, hst⟩ := step_ neg (us1.getD k 0) 0 c1 hy (by decide) hL.2.2.1
            have hL2 := hL.next0 ck x c2 hx hc2 hxe
            have hB2 := hB.setw k x (by rw [hL.1]; omega)
            have hK2 := hK.setCell k (.int .u64 (x : Int))
            have j3 : (k : Int) < 67 := by omega
            have j5 : k + 1 ≤ 67 := by omega
            have j6 : 67 - (k + 1) < 67 - k := by omega
            generalize us1.getD k 0 = y at *
            clear hL hB hK hxe hy hx hc2 hk hc
            go_wp2_with (fail)
            first | (go_region_with (go_at_call 77; refine (hst _).mono ?_; rintro e w' ⟨rfl, hw'⟩; obtain rfl := hw'.symm)) | fail
            all_goals (
              go_wp2
              exact ⟨⟨k + 1, c2, us1.set k x, rfl, by go_num, j5, hL2, hB2.drew, hK2.drew⟩, (show 67 - (k + 1) < 67 - k from j6)⟩)
          · obtain rfl : k = 67 := by omega
            have hR := hL.rep HB.out.2
            clear ck hk hc
            go_wp2_with (fail)
            exact bodyPost_end (v := .tuple #[]) (by simp [results, Tryz.results42, go_sem]) rfl (by first | exact ⟨⟨_, rfl⟩, us1, hB, hR, hK⟩ | exact ⟨us1, ⟨_, rfl⟩, hB, hR, hK⟩)
end Go.Proofs.YtnjlcfpkhgmjeaaGreatDoor
