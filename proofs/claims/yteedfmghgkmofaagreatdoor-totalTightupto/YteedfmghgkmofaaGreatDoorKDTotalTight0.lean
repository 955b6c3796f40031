import Derived.Test.YteedfmghgkmofaaGreatDoorKRE
import Derived.Test.YteedfmghgkmofaaGreatDoorKTCa
import Derived.RowKit
import Derived.WalkKit
import Derived.ProofKit
import Derived.RowKit3
import Derived.Deep.RegionHeld3
import Derived.WalkSpells
import Derived.StillTactics
import Derived.Laws.FloatArith
import Derived.Deep.QuietTactic
import Derived.BigQuiet
import Derived.Below
import Derived.Deep.OwnRows
import Derived.OwnWalk
import Derived.Laws.Bits64b
import Derived.Laws.BitsAllLaws
import Derived.Laws.Slices
namespace Go.Proofs.YteedfmghgkmofaaGreatDoor
open Go.RowKit
/-- one word of a difference -/
theorem minus_step (L xs ys : List Int) (k C C' Z : Nat) (hl : L.length = k) (hZ : Z + ((ys.getD k 0).toNat + C) = (xs.getD k 0).toNat + C' * 4294967296) (h : val L + val (ys.take k) = val (xs.take k) + C * 4294967296 ^ k) :
    val (L ++ [(Z : Int)]) + val (ys.take (k + 1)) = val (xs.take (k + 1)) + C' * 4294967296 ^ (k + 1) := by
  rw [val_append, val_take_succ, val_take_succ, hl]
  simp only [val, Int.toNat_natCast, Nat.mul_zero, Nat.add_zero]
  obtain ⟨P, hP⟩ : ∃ P, P = 4294967296 ^ k := ⟨_, rfl⟩
  rw [Nat.pow_succ, ← hP]
  rw [← hP] at h
  have e := congrArg (· * P) hZ
  simp only [Nat.add_mul] at e
  have e3 : C' * 4294967296 * P = C' * (P * 4294967296) := by rw [Nat.mul_comm P, Nat.mul_assoc]
  rw [Nat.mul_comm P Z]
  omega
theorem minus_end (zs xs ys : List Int) (C n : Nat) (hl : zs.length = n) (hz : Wd zs) (hle : val ys ≤ val xs) (h : val zs + val ys = val xs + C * 4294967296 ^ n) (hC : C ≤ 1) : C = 0 := by
  have h1 := val_lt zs hz
  rw [hl] at h1
  rcases (by omega : C = 0 ∨ C = 1) with c | c
  · exact c
  · subst c; omega
end Go.Proofs.YteedfmghgkmofaaGreatDoor
namespace Go.Proofs.YteedfmghgkmofaaGreatDoor
open Go.RowKit
namespace Fq
def bD : Int := 4503599627370496
end Fq
end Go.Proofs.YteedfmghgkmofaaGreatDoor
namespace Go.Proofs.YteedfmghgkmofaaGreatDoor
open Go.RowKit
/-- one word more -/
theorem Own.push {w : World} {base : Nat} {v : Value} {xs : List Int} {X : Int} (h : w.ownsRow base 100 1 v (xs.length + 1) (xs.map (Value.int .u32) ++ [.int .u32 X])) : Own w base v (xs ++ [X]) := by
  unfold Own
  simpa using h
theorem take_push (xs : List Int) (k : Nat) (h : k < xs.length) : xs.take k ++ [xs.getD k 0] = xs.take (k + 1) := by
  rw [List.take_add_one, List.getElem?_eq_getElem h]
  simp [List.getD, h]
end Go.Proofs.YteedfmghgkmofaaGreatDoor
namespace Go.Proofs.YteedfmghgkmofaaGreatDoor
open Go.RowKit
theorem and32 (S : Nat) (h : S < 18446744073709551616) : bits BinOp.and IntKind.u64 (S : Int) 4294967295 = ((S % 4294967296 : Nat) : Int) := by
  have := bits_and_u64_nat S 4294967295 h (by decide)
  have e : S &&& 4294967295 = S % 4294967296 := Nat.and_two_pow_sub_one_eq_mod S 32
  rw [e] at this
  exact this
/-- one word of a sum -/
theorem plus_step (L xs ys : List Int) (k C S : Nat) (hl : L.length = k) (hS : S = C + (xs.getD k 0).toNat + (ys.getD k 0).toNat) (h : val L + C * 4294967296 ^ k = val (xs.take k) + val (ys.take k)) :
    val (L ++ [((S % 4294967296 : Nat) : Int)]) + S / 4294967296 * 4294967296 ^ (k + 1) = val (xs.take (k + 1)) + val (ys.take (k + 1)) := by
  rw [val_append, val_take_succ, val_take_succ, hl]
  simp only [val, Int.toNat_natCast, Nat.mul_zero, Nat.add_zero]
  have e : S % 4294967296 + 4294967296 * (S / 4294967296) = S := Nat.mod_add_div _ _
  obtain ⟨P, hP⟩ : ∃ P, P = 4294967296 ^ k := ⟨_, rfl⟩
  rw [Nat.pow_succ, ← hP]
  rw [← hP] at h
  have e2 : P * (S % 4294967296) + S / 4294967296 * (P * 4294967296) = P * S := by
    have : S / 4294967296 * (P * 4294967296) = P * (4294967296 * (S / 4294967296)) := by
      rw [Nat.mul_comm, Nat.mul_assoc]
    rw [this, ← Nat.mul_add, e]
  have e3 : P * S = C * P + (xs.getD k 0).toNat * P + (ys.getD k 0).toNat * P := by
    rw [hS, Nat.mul_comm, Nat.add_mul, Nat.add_mul]
  omega
theorem getD_out (xs : List Int) (k : Nat) (h : ¬ k < xs.length) : xs.getD k 0 = 0 := by
  simp [List.getD, List.getElem?_eq_none (by omega : xs.length ≤ k)]
end Go.Proofs.YteedfmghgkmofaaGreatDoor
namespace Go.Proofs.YteedfmghgkmofaaGreatDoor
open Go.RowKit
set_option maxRecDepth 20000 in
set_option maxHeartbeats 1000000 in
theorem words_ (p : Option Addr) (c : Nat) (xs : List Int) (w : World) (hx : Arr w p xs) (lx : xs.length ≤ 1099511627776) :
    Calls Tryz.prog 112 #[.slice p xs.length c] w fun e w' => e = .returned (.int .i64 (tl xs : Int)) ∧ w' = w := by
  obtain ⟨N, hN⟩ : ∃ N, N = xs.length := ⟨_, rfl⟩
  rw [← hN] at lx ⊢
  have HX : Hid (Arr w p xs) := hx
  have HN : Hid (N = xs.length) := hN
  obtain ⟨T, hT⟩ : ∃ T, T = tl xs := ⟨_, rfl⟩
  rw [← hT]
  have HT : Hid (tlAux xs N = T) := by rw [hT, hN]; exact rfl
  have hT2 : T ≤ N := by rw [hT, hN]; exact tl_le xs
  clear hN hx hT
  go_enter Tryz.func112, Tryz.ntmps112
  go_wp2
  go_loop [3] (fun i => ∃ k : Nat, i = .int .i64 k ∧ k ≤ N ∧ tlAux xs k = T) (fun i => (intOf i).toNat)
  case atStart => exact ⟨N, rfl, Nat.le_refl _, HT.out⟩
  case round =>
    obtain ⟨k, rfl, hk, ht⟩ := hrel
    have hN := HN.out
    rcases k with _ | k
    · have hT0 : T = 0 := by rw [← ht]; rfl
      subst hT0
      clear hN HN HX HT ht hk
      go_wp2
      exact bodyPost_ret (v := .int .i64 0) (by simp [results, Tryz.results112, go_sem] <;> simp only [*]) rfl ⟨rfl, rfl⟩
    · obtain ⟨b, off, rfl, hc'⟩ := HX.out.at (k := k) (by omega)
      have e1 := hc' k (by omega)
      have f1 : (((k + 1 : Nat) : Int) - 1) = (k : Int) := by omega
      by_cases cz : xs.getD k 0 = 0
      · rw [tlAux_zero xs k cz] at ht
        rw [cz] at e1
        clear hN HN HX HT hc'
        go_wp2
        exact ⟨⟨k, by go_num, by omega, ht⟩, by simp [intOf]⟩
      · rw [tlAux_nz xs k cz] at ht
        subst ht
        obtain ⟨X, hX⟩ : ∃ X, X = xs.getD k 0 := ⟨_, rfl⟩
        rw [← hX] at e1 cz
        have t1 : (X == 0) = false := by simp [cz]
        clear hN HN HX HT hc' hX cz
        go_wp2
        exact bodyPost_ret (v := .int .i64 ((k + 1 : Nat) : Int)) (by simp [results, Tryz.results112, go_sem] <;> simp only [*]) rfl ⟨rfl, rfl⟩
end Go.Proofs.YteedfmghgkmofaaGreatDoor
namespace Go.Proofs.YteedfmghgkmofaaGreatDoor
open Go.RowKit
theorem lost_mod (xs : List Int) (h : Wd xs) (o s X : Nat) (hs : s < 32) (ho : o < xs.length) (hX : xs.getD o 0 = (X : Int)) : val xs % (4294967296 ^ o * 2 ^ s) ≠ 0 ↔ X % 2 ^ s ≠ 0 ∨ val (xs.take o) ≠ 0 := by
  obtain ⟨e1, e2⟩ := val_div xs h o (by omega)
  have e3 := val_drop xs o ho
  rw [hX, Int.toNat_natCast] at e3
  have e := split32 s hs
  have hp : 0 < 4294967296 ^ o := Nat.pow_pos (by decide)
  have e4 : val (xs.drop o) % 2 ^ s = X % 2 ^ s := by
    have : (4294967296 : Nat) * val (xs.drop (o + 1)) = 2 ^ s * (2 ^ (32 - s) * val (xs.drop (o + 1))) := by rw [← Nat.mul_assoc, ← e]
    rw [e3, this, Nat.add_mul_mod_self_left]
  rw [Nat.mod_mul, e1, e2, e4]
  constructor
  · intro h1
    by_cases c : X % 2 ^ s = 0
    · right; rw [c] at h1; simpa using h1
    · exact Or.inl c
  · rintro (h1 | h1) h2
    · have : 0 < 4294967296 ^ o * (X % 2 ^ s) := Nat.mul_pos hp (by omega)
      omega
    · omega
theorem lost_word (X s : Nat) (hs : s < 32) : X * 2 ^ (31 - s) % 4294967296 * 2 % 4294967296 = X % 2 ^ s * 2 ^ (32 - s) := by
  have e := split32 s hs
  rw [Nat.mod_mul_mod, Nat.mul_assoc, ← Nat.pow_succ, show (31 - s).succ = 32 - s from by omega, e, Nat.mul_mod_mul_right]
theorem right_word (ys : List Int) (h : Wd ys) (k s X Y : Nat) (hs : s < 32) (hk : k < ys.length) (hX : ys.getD k 0 = (X : Int)) (hY : ys.getD (k + 1) 0 = (Y : Int)) : val ys / 2 ^ s / 4294967296 ^ k % 4294967296 = (X + Y * 4294967296) / 2 ^ s % 4294967296 := by
  have hX32 := h k
  rw [hX] at hX32
  by_cases c : k + 1 < ys.length
  · rw [low_word ys h k s X Y hs c hX hY]
    exact (shr_word (X + Y * 4294967296) X Y 0 s hs (by omega) (by omega)).symm
  · have hY0 : Y = 0 := by
      have : ys.getD (k + 1) 0 = 0 := by simp [List.getD, List.getElem?_eq_none (by omega : ys.length ≤ k + 1)]
      omega
    rw [low_last ys h k s X (by omega) hX, hY0, Nat.zero_mul, Nat.add_zero]
    exact (Nat.mod_eq_of_lt (Nat.lt_of_le_of_lt (Nat.div_le_self _ _) (by omega))).symm
end Go.Proofs.YteedfmghgkmofaaGreatDoor
namespace Go.Proofs.YteedfmghgkmofaaGreatDoor
open Go.RowKit
theorem ctz_odd (a : Nat) (h : a ≠ 0) : ∃ o, o % 2 = 1 ∧ a = o * 2 ^ ctz a ∧ a / 2 ^ ctz a = o ∧ ctz a ≤ blen a := by
  obtain ⟨o, k, ho, e⟩ := odd_part a h
  have hk : ctz a = k := by rw [e]; exact ctz_eq k o ho
  refine ⟨o, ho, by rw [hk]; exact e, ?_, ?_⟩
  · rw [hk, e, Nat.mul_div_cancel _ (Nat.pow_pos (by omega))]
  · rw [hk, e, blen_mul _ _ (by omega)]; omega
theorem frac_rV (d : Int) (p a b a1 b1 ka kb x y : Nat) (exp ex t : Int) (ha : a = a1 * 2 ^ ka) (hb : b = b1 * 2 ^ kb) (hb1 : 0 < b1) (hex : ex = exp + ka - kb) (hx : x = ex.toNat) (hy : y = (-ex).toNat) :
    rV d p (a1 * 2 ^ x) (b1 * 2 ^ y) t = rV d p a b (t + exp) := by
  rw [rV_up d p a1 _ x t (Nat.mul_pos hb1 (Nat.pow_pos (by omega))), rV_down d p a1 b1 y _ hb1, ha, hb, rV_up d p a1 _ ka _ (Nat.mul_pos hb1 (Nat.pow_pos (by omega))), rV_down d p a1 b1 kb _ hb1]
  exact congrArg _ (by omega)
/-- what Frac answers of a by b times 2^exp -/
def FracOf (a b : Nat) (exp : Int) (a' b' : Nat) : Prop := b' ≠ 0 ∧ (a' = 0 ↔ a = 0) ∧ (∀ (d : Int) (p : Nat) (t : Int), a ≠ 0 → rV d p a' b' t = rV d p a b (t + exp)) ∧ blen a' ≤ 2 * blen a + exp.natAbs + 1 ∧ blen b' ≤ 2 * blen b + exp.natAbs + 1
theorem frac_of (a b a1 b1 ka kb x y : Nat) (exp ex : Int) (h0 : a1 ≠ 0) (hb1 : b1 ≠ 0) (ha : a = a1 * 2 ^ ka) (hb : b = b1 * 2 ^ kb) (_hka : ka ≤ blen a) (_hkb : kb ≤ blen b) (hex : ex = exp + ka - kb) (hx : x = ex.toNat) (hy : y = (-ex).toNat) : FracOf a b exp (a1 * 2 ^ x) (b1 * 2 ^ y) := by
  have la : blen a = blen a1 + ka := by rw [ha, blen_mul _ _ h0]
  have lb : blen b = blen b1 + kb := by rw [hb, blen_mul _ _ hb1]
  have hp : ∀ k, 0 < (2 : Nat) ^ k := fun k => Nat.pow_pos (by omega)
  refine ⟨Nat.ne_of_gt (Nat.mul_pos (by omega) (hp y)), ?_, ?_, ?_, ?_⟩
  · constructor
    · intro h; exact absurd h (Nat.ne_of_gt (Nat.mul_pos (by omega) (hp x)))
    · intro h; rw [ha] at h; exact absurd h (Nat.ne_of_gt (Nat.mul_pos (by omega) (hp ka)))
  · intro d p t _
    exact frac_rV d p a b a1 b1 ka kb x y exp ex t ha hb (by omega) hex hx hy
  · rw [blen_mul _ _ h0]; omega
  · rw [blen_mul _ _ hb1]; omega
end Go.Proofs.YteedfmghgkmofaaGreatDoor
namespace Go.Proofs.YteedfmghgkmofaaGreatDoor
open Go.RowKit
set_option maxRecDepth 20000 in
set_option maxHeartbeats 2000000 in
theorem rnorm_ (p : Option Addr) (c : Nat) (xs : List Int) (w : World) (hx : Arr w p xs) (lx : xs.length ≤ 1099511627776) :
    Calls Tryz.prog 77 #[.slice p xs.length c] w fun e w' => ∃ v, e = .returned v ∧ Own w' w.heap.size v (nz xs) ∧ Kp w w' := by
  obtain ⟨N, hN⟩ : ∃ N, N = xs.length := ⟨_, rfl⟩
  rw [← hN] at lx ⊢
  have HX : Hid (Arr w p xs) := hx
  have HN : Hid (N = xs.length) := hN
  obtain ⟨T, hT⟩ : ∃ T, T = tl xs := ⟨_, rfl⟩
  have HT : Hid (tlAux xs N = T) := by rw [hT, hN]; exact rfl
  have HT2 : Hid (T ≤ N ∧ T = tl xs) := ⟨by rw [hT, hN]; exact tl_le xs, hT⟩
  obtain ⟨i0, hi0, hi1, hi2, hi3⟩ := inf32p
  clear hN hx hT
  go_enter Tryz.func77, Tryz.ntmps77
  go_wp2
  go_loop [3] (fun i => ∃ k : Nat, i = .int .i64 k ∧ k ≤ N ∧ tlAux xs k = T) (fun i => (intOf i).toNat)
  case atStart => exact ⟨N, rfl, Nat.le_refl _, HT.out⟩
  case round =>
    obtain ⟨k, rfl, hk, ht⟩ := hrel
    have hN := HN.out
    have step2 : k = 0 ∨ (∃ k', k = k' + 1 ∧ xs.getD k' 0 = 0) ∨ (∃ k', k = k' + 1 ∧ xs.getD k' 0 ≠ 0) := by
      rcases k with _ | k'
      · exact Or.inl rfl
      · by_cases cz : xs.getD k' 0 = 0
        · exact Or.inr (Or.inl ⟨k', rfl, cz⟩)
        · exact Or.inr (Or.inr ⟨k', rfl, cz⟩)
    rcases step2 with rfl | ⟨k, rfl, cz⟩ | ⟨k, rfl, cz⟩
    · have hT0 : T = 0 := by rw [← ht]; rfl
      subst hT0
      clear hN HN HX HT ht hk
      have hnz : nz xs = [] := by unfold nz; rw [← HT2.out.2]; rfl
      go_wp2
      go_loopw [4, 5] (fun v i wr => v = .slice none 0 0 ∧ i = .int .i64 0 ∧ wr = w) (fun _ _ _ => 0)
      case atStart => exact ⟨rfl, rfl, rfl⟩
      case round =>
        obtain ⟨rfl, rfl, rfl⟩ := hrel
        go_wp2
        exact bodyPost_ret (v := .slice none 0 0) (by simp [results, Tryz.results77, go_sem] <;> simp only [*]) rfl ⟨_, rfl, by rw [hnz]; exact Own.nil _ _, Kp.refl _⟩
    · obtain ⟨b, off, rfl, hc'⟩ := HX.out.at (k := k) (by omega)
      have e1 := hc' k (by omega)
      rw [tlAux_zero xs k cz] at ht
      rw [cz] at e1
      clear hN HN HX HT hc' HT2
      go_wp2
      exact ⟨⟨k, by go_num, by omega, ht⟩, by simp [intOf]⟩
    · obtain ⟨b, off, rfl, hc'⟩ := HX.out.at (k := k) (by omega)
      have e1 := hc' k (by omega)
      rw [tlAux_nz xs k cz] at ht
      obtain ⟨X, hX⟩ : ∃ X, X = xs.getD k 0 := ⟨_, rfl⟩
      rw [← hX] at e1 cz
      have t1 : (X == 0) = false := by simp [cz]
      have HK : Hid (k + 1 = T) := ht
      clear hN HT hc' hX cz ht
      go_wp2
      go_loopw [4, 5] (fun a i wr => ∃ (v : Value) (j : Nat), v = a ∧ j ≤ k + 1 ∧ i = .int .i64 j ∧ Own wr w.heap.size v (xs.take j) ∧ Kp w wr) (fun _ i _ => k + 1 - (intOf i).toNat)
      case atStart => exact ⟨_, 0, rfl, Nat.zero_le _, rfl, by simpa using Own.nil w w.heap.size, Kp.refl _⟩
      case round =>
        obtain ⟨v, j, rfl, hj, rfl, hown, hkp⟩ := hrel
        obtain ⟨hTN, hTe⟩ := HT2.out
        have hKT := HK.out
        have hN := HN.out
        clear e1 t1
        by_cases cj : j < k + 1
        · obtain ⟨b2, off2, hb2, hc2⟩ := HX.out.at (k := j) (by omega)
          obtain ⟨rfl, rfl⟩ : b = b2 ∧ off = off2 := by simpa using hb2
          have e2 := kkeep hkp (hc2 j (by omega))
          have hpush := take_push xs j (by omega)
          have hob := own_block hown
          have hlen : (xs.take j).length = j := by rw [List.length_take]; omega
          have hown' : wr.ownsRow w.heap.size 100 1 v ((xs.take j).length) ((xs.take j).map (Value.int .u32)) := hown
          obtain ⟨Y, hY⟩ : ∃ Y, Y = xs.getD j 0 := ⟨_, rfl⟩
          rw [← hY] at e2 hpush
          have hsz := hkp.size
          clear hc2 hb2 hY hTe HX HN HT2 HK hown
          clear hN
          go_wp2_with (first | (at_builtin; refine wpList_append_own _ rfl _ _ 41 rfl w.heap.size 100 i0 (.int .u32 0) 1 4 Tryz.underlying41 hi0 hi1 hi2 hi3 rfl (by decide) _ _ _ rfl (hown'.alloc _) ⟨wr.heap.size, 0, none⟩ 1 1 [.int .u32 Y] rfl rfl ?c1 ?c2 ?c3 ?c4 ?c5 ?_))
          case c1 =>
            intro j' u hj'
            match j', hj' with
            | 0, hj' => simp at hj'; subst hj'; simp [Addr.add]
          case c2 => intro u hu; simp at hu; subst hu; rfl
          case c3 => unfold maxLen; omega
          case c4 => omega
          case c5 => simp; omega
          intro v' w1 hown2 hgrow _
          have hO : Own w1 w.heap.size v' (xs.take (j + 1)) := by rw [← hpush]; refine Own.push ?_; rw [hlen, List.map_take]; exact hown2
          have hK2 : Kp w w1 := (hkp.alloc _).grown hgrow hob
          clear hown2 hgrow hown' hkp hob e2 hsz hpush hlen
          go_wp2
          exact ⟨⟨_, j + 1, rfl, by omega, by go_num, hO, hK2⟩, by simp [intOf]; omega⟩
        · have hjk : j = k + 1 := by omega
          have hnz : nz xs = xs.take j := by unfold nz; rw [← hTe, ← hKT, hjk]
          clear hN HN HX HT2 HK hTe hTN hKT
          go_wp2
          exact bodyPost_ret (v := v) (by simp [results, Tryz.results77, go_sem] <;> simp only [*]) rfl ⟨_, rfl, by rw [hnz]; exact hown, hkp⟩
end Go.Proofs.YteedfmghgkmofaaGreatDoor
namespace Go.Proofs.YteedfmghgkmofaaGreatDoor
open Go.RowKit
set_option maxRecDepth 20000 in
set_option maxHeartbeats 1000000 in
theorem rleft_ (p : Option Addr) (c m : Nat) (xs : List Int) (w : World) (hx : Arr w p xs) (hwx : Wd xs) (lx : xs.length ≤ 1048576) (hm : m ≤ 16777216) :
    Calls Tryz.prog 107 #[.slice p xs.length c, .int .i64 (m : Int)] w fun e w' => ∃ v, e = .returned v ∧ Own w' w.heap.size v (dig (val xs * 2 ^ m)) ∧ Kp w w' := by
  have h1 := words_ p c xs w hx (by omega)
  have lS := tl_le xs
  have hvx := val_tl xs
  obtain ⟨N, hN⟩ : ∃ N, N = xs.length := ⟨_, rfl⟩
  obtain ⟨S, hS⟩ : ∃ S, S = tl xs := ⟨_, rfl⟩
  rw [← hS] at h1 lS hvx
  rw [← hN] at h1 lS lx ⊢
  rcases Nat.eq_zero_or_pos S with h0 | h0
  · subst h0
    have e0 : val xs = 0 := by rw [← hvx]; rfl
    rw [e0, Nat.zero_mul, dig_zero]
    clear hx hwx lx lS hN hS hvx e0 hm
    go_enter Tryz.func107, Tryz.ntmps107
    go_wp2_with fail
    refine h1.mono ?_; rintro e w' ⟨rfl, hw'⟩; obtain rfl := hw'.symm
    go_wp2
    exact bodyPost_ret (v := .slice none 0 0) (by simp [results, Tryz.results107, go_sem] <;> simp only [*]) rfl ⟨_, rfl, Own.nil _ _, Kp.refl _⟩
  · obtain ⟨o, ho⟩ : ∃ o, o = m / 32 := ⟨_, rfl⟩
    obtain ⟨s, hs⟩ : ∃ s, s = m % 32 := ⟨_, rfl⟩
    obtain ⟨L, hL⟩ : ∃ L, L = o + S + 1 := ⟨_, rfl⟩
    have hps := pow_split m
    rw [← ho, ← hs] at hps
    have hmk : ∀ w : World, (Instr.makeSlice 41 (.int .i64 ((o : Int) + (S : Int) + 1)) (.int .i64 ((o : Int) + (S : Int) + 1))).run Tryz.prog w = .ok (.slice (some ⟨w.heap.size, 0, none⟩) L L) (w.alloc (.cells (madeCells #[.int .u32 0] L) 100)) := by
      have := mk32 L (by omega)
      have e : ((L : Nat) : Int) = (o : Int) + (S : Int) + 1 := by omega
      rw [e] at this
      exact this
    have hk1 : Kp w (w.alloc (.cells (madeCells #[.int .u32 0] L) 100)) := (Kp.refl w).alloc _
    have hrz : Rw (w.alloc (.cells (madeCells #[.int .u32 0] L) 100)) w.heap.size L (List.replicate L 0) := World.rowIs.congr (World.rowIs_made w (.int .u32 0) L 100) (fun j _ => by rw [rep0_getD])
    obtain ⟨zs0, hz0⟩ : ∃ zs0, zs0 = List.replicate L (0 : Int) := ⟨_, rfl⟩
    have hzl0 : zs0.length = L := by rw [hz0]; simp
    have hwz0 : Wd zs0 := by rw [hz0]; exact Wd_rep0 _
    have hzz0 : ∀ j, zs0.getD j 0 = 0 := fun j => by rw [hz0]; exact rep0_getD _ _
    have hvz0 := val_zeros zs0 hzz0
    rw [← hz0] at hrz
    obtain ⟨g, hg⟩ : ∃ g, g = w.heap.size := ⟨_, rfl⟩
    rw [← hg] at hrz
    have f1 : (m : Int) / 32 = (o : Int) := by omega
    have f2 : (m : Int) % 32 = (s : Int) := by omega
    have f3 : IntKind.u64.wrap (s : Int) = (s : Int) := by rw [IntKind.wrap_u64]; omega
    have t0 : ((S : Int) == 0) = false := by simp; omega
    have i00 : (0 : Int) ≤ (s : Int) := by omega
    have lS2 : S ≤ 1048576 := by omega
    have lo : o ≤ 524288 := by omega
    have HX : Hid (Arr w p xs ∧ Wd xs ∧ val (xs.take S) = val xs ∧ N = xs.length ∧ S ≤ N ∧ L = o + S + 1 ∧ s < 32 ∧ g = w.heap.size ∧ 2 ^ s * 4294967296 ^ o = 2 ^ m) := ⟨hx, hwx, hvx, hN, lS, hL, by omega, hg, hps⟩
    clear hx hwx hN hS hvx lS hL ho hs hps hz0 lx h0 hm
    go_enter Tryz.func107, Tryz.ntmps107
    go_wp2_with fail
    refine h1.mono ?_; rintro e w' ⟨rfl, hw'⟩; obtain rfl := hw'.symm
    clear h1
    go_wp2
    rw [← hg]
    clear hmk hg t0
    go_loopw [8] (fun i wr => ∃ (k C : Nat) (us : List Int), i = .int .i64 k ∧ k ≤ S ∧ Rw wr g L us ∧ us.length = L ∧ Wd us ∧ us.getD (o + k) 0 = (C : Int) ∧ C < 2 ^ s ∧ val us = val (xs.take k) * 2 ^ s * 4294967296 ^ o ∧ (∀ j, o + k < j → us.getD j 0 = 0) ∧ Kp w wr) (fun i _ => S - (intOf i).toNat)
    case atStart => exact ⟨0, 0, zs0, rfl, Nat.zero_le _, hrz, hzl0, hwz0, hzz0 _, Nat.two_pow_pos s, by rw [hvz0]; simp [val], fun j _ => hzz0 j, hk1⟩
    case round =>
      clear hrz hzl0 hwz0 hzz0 hvz0 hk1
      obtain ⟨k, C, us, rfl, hk, hrow, hul, hwu, hCe, hC, hv, hz, hkp⟩ := hrel
      obtain ⟨hx, hwx, hvx, hN, lS, hL, hs, hg, hps⟩ := HX.out
      by_cases ck : k < S
      · obtain ⟨b, off, rfl, hc⟩ := hx.at (k := k) (by omega)
        have e0 := hc k (by omega)
        have e1 := kkeep hkp e0
        have wx := hwx k
        obtain ⟨X, hX⟩ : ∃ X : Nat, (X : Int) = xs.getD k 0 := ⟨(xs.getD k 0).toNat, by omega⟩
        rw [← hX] at e1
        have h2s : 2 ^ s ≤ 2147483648 := by
          have := Nat.pow_le_pow_right (show 0 < 2 by decide) (show s ≤ 31 by omega)
          exact Nat.le_trans this (by decide)
        have hX32 : X < 4294967296 := by omega
        obtain ⟨w1, w2, w3, w4⟩ := shl_word X C s hs hX32 hC
        have hV63 : X * 2 ^ s < 18446744073709551616 := by
          have a1 : X * 2 ^ s ≤ 4294967295 * 2147483648 := Nat.mul_le_mul (by omega) h2s
          omega
        have hhi : X * 2 ^ s / 4294967296 = X / 2 ^ (32 - s) := by omega
        obtain ⟨V, hV⟩ : ∃ V, V = X * 2 ^ s := ⟨_, rfl⟩
        obtain ⟨H, hH⟩ : ∃ H, H = X / 2 ^ (32 - s) := ⟨_, rfl⟩
        rw [← hV] at w1 w2 w4 hV63 hhi
        rw [← hH] at w3 w4 hhi
        have f4 : IntKind.u64.wrap (X : Int) = (X : Int) := by rw [IntKind.wrap_u64]; omega
        have f5 : IntKind.u64.wrap ((X : Int) * 2 ^ s) = (V : Int) := by
          have : (X : Int) * 2 ^ s = (V : Int) := by rw [hV, Int.natCast_mul, Int.natCast_pow]; rfl
          rw [this, IntKind.wrap_u64]; omega
        have f6 := and32 V hV63
        obtain ⟨Y, hY⟩ : ∃ Y, Y = V % 4294967296 := ⟨_, rfl⟩
        rw [← hY] at f6 w1 w2 w4
        have f7 : IntKind.u32.wrap (Y : Int) = (Y : Int) := by rw [IntKind.wrap_u32]; omega
        have f8 := u32_or_nat C Y (by omega) (by omega)
        rw [Nat.or_comm, w1] at f8
        have f9 : (V : Int) / 4294967296 = (H : Int) := by omega
        have f10 : IntKind.u32.wrap (H : Int) = (H : Int) := by rw [IntKind.wrap_u32]; omega
        obtain ⟨Z, hZ⟩ : ∃ Z, Z = Y + C := ⟨_, rfl⟩
        rw [← hZ] at f8 w2 w4
        have hv1 := val_set us (o + k) (Z : Int) (by omega)
        rw [hCe, Int.toNat_natCast, Int.toNat_natCast] at hv1
        have hg1 : (us.set (o + k) (Z : Int)).getD (o + k + 1) 0 = 0 := by
          have e2 : (us.set (o + k) (Z : Int)).getD (o + k + 1) 0 = us.getD (o + k + 1) 0 := by simp [List.getD]
          rw [e2]; exact hz _ (by omega)
        have hv2 := val_set (us.set (o + k) (Z : Int)) (o + k + 1) (H : Int) (by rw [List.length_set]; omega)
        rw [hg1, Int.toNat_natCast] at hv2
        have hg2 := mul_grow xs (2 ^ s) o k
        rw [show (xs.getD k 0).toNat = X from by omega, ← hV] at hg2
        have hval : val ((us.set (o + k) (Z : Int)).set (o + k + 1) (H : Int)) = val (xs.take (k + 1)) * 2 ^ s * 4294967296 ^ o := by
          rw [hg2, ← hv]
          rw [Nat.pow_succ] at hv2
          generalize 4294967296 ^ (o + k) = P at hv1 hv2 ⊢
          have e := congrArg (· * P) w4
          simp only [Nat.add_mul] at e
          have e3 : H * (P * 4294967296) = 4294967296 * H * P := by simp only [Nat.mul_comm, Nat.mul_left_comm]
          simp at hv2
          omega
        have hw2 : Wd ((us.set (o + k) (Z : Int)).set (o + k + 1) (H : Int)) := (hwu.set (o + k) Z (by omega)).set _ _ (by omega)
        have hl2 : ((us.set (o + k) (Z : Int)).set (o + k + 1) (H : Int)).length = L := by rw [List.length_set, List.length_set]; exact hul
        have hH2 : ((us.set (o + k) (Z : Int)).set (o + k + 1) (H : Int)).getD (o + (k + 1)) 0 = (H : Int) := by
          rw [← Nat.add_assoc]; simp [List.getD, show o + k + 1 < us.length from by omega]
        have hz2 : ∀ j, o + (k + 1) < j → ((us.set (o + k) (Z : Int)).set (o + k + 1) (H : Int)).getD j 0 = 0 := fun j h1 => by
          have e1 : ((us.set (o + k) (Z : Int)).set (o + k + 1) (H : Int)).getD j 0 = us.getD j 0 := by simp [List.getD, show ¬ o + k = j from by omega, show ¬ o + k + 1 = j from by omega]
          rw [e1]; exact hz j (by omega)
        have e3 := World.rowIs.cell hrow (i := o + k) (by omega)
        rw [hCe] at e3
        have e4 := World.rowIs.frozen hrow (o + k)
        have hR1 := hrow.set (o + k) (Z : Int) (by omega)
        have e5 := World.rowIs.cell hR1 (i := o + k + 1) (by omega)
        have e6 := World.rowIs.frozen hR1 (o + k + 1)
        have hR2 := hR1.set (o + k + 1) (H : Int) (by rw [List.length_set]; omega)
        have hgw : w.heap.size ≤ g := by omega
        have hK := (hkp.setCell (p := ⟨g, o + k, none⟩) hgw (.int .u32 (Z : Int))).setCell (p := ⟨g, o + k + 1, none⟩) hgw (.int .u32 (H : Int))
        have i0 : (0 : Int) ≤ (k : Int) := by omega
        have i1 : (k : Int) < (S : Int) := by omega
        have i2 : (k : Int) < (N : Int) := by omega
        have i3 : (0 : Int) ≤ (o : Int) + (k : Int) := by omega
        have i4 : (o : Int) + (k : Int) < (L : Int) := by omega
        have i5 : (0 : Int) ≤ (o : Int) + (k : Int) + 1 := by omega
        have i6 : (o : Int) + (k : Int) + 1 < (L : Int) := by omega
        have HH : Hid (H < 2 ^ s) := w3
        clear HX hx hwx hvx hN lS hL hs hg hps hc e0 wx hX hV hH hY hZ hCe hC hv hz hrow hul hwu hkp h2s hV63 hhi w1 w2 w3 w4 hv1 hv2 hg1 hg2 hR1 hX32
        go_wp2
        exact ⟨⟨k + 1, H, (us.set (o + k) (Z : Int)).set (o + k + 1) (H : Int), by go_num, by omega, hR2, hl2, hw2, hH2, HH.out, hval, hz2, hK⟩, by simp [intOf]; omega⟩
      · have hkS : k = S := by omega
        subst hkS
        rw [hvx, Nat.mul_assoc, hps] at hv
        have hA := hrow.arr L (Nat.le_refl _) (by omega)
        rw [List.take_of_length_le (by omega)] at hA
        have hno := rnorm_ (some ⟨g, 0, none⟩) L us wr hA (by omega)
        rw [nz_dig us hwu, hv, hul] at hno
        have hsz := hkp.size
        have i1 : ¬ ((k : Int) < (k : Int)) := by omega
        clear HX hx hwx hvx hN lS hL hs hg hps hA hrow hul hwu hCe hC hv hz hk ck
        go_wp2_with fail
        refine hno.mono ?_
        rintro e w2 ⟨v2, rfl, hO2, hk2⟩
        clear hno
        go_wp2
        exact bodyPost_ret (v := v2) (by simp [results, Tryz.results107, go_sem] <;> simp only [*]) rfl ⟨v2, rfl, hO2.mono hsz, hkp.trans hk2⟩
end Go.Proofs.YteedfmghgkmofaaGreatDoor
namespace Go.Proofs.YteedfmghgkmofaaGreatDoor
open Go.RowKit
set_option maxRecDepth 20000 in
set_option maxHeartbeats 1000000 in
theorem rcmp_ (p q : Option Addr) (c d : Nat) (xs ys : List Int) (w : World) (hx : Arr w p xs) (hy : Arr w q ys) (hwx : Wd xs) (hwy : Wd ys) (lx : xs.length ≤ 1099511627776) (ly : ys.length ≤ 1099511627776) :
    Calls Tryz.prog 75 #[.slice p xs.length c, .slice q ys.length d] w fun e w' => e = .returned (.int .i64 (cmpN (val xs) (val ys))) ∧ Kp w w' := by
  have h1 := words_ p c xs w hx lx
  have h2 := words_ q d ys w hy ly
  have lS := tl_le xs
  have lT := tl_le ys
  have hg : Kp w w := Kp.refl w
  have dlt := fun h => cmpN_lt (tl_lt_val xs ys hwx hwy h)
  have dgt := fun h => cmpN_gt (tl_lt_val ys xs hwy hwx h)
  have deq : tl xs = tl ys → (∀ j, j < tl xs → xs.getD j 0 = ys.getD j 0) → cmpN (val xs) (val ys) = 0 := fun e h => by
    apply cmpN_eq
    rw [← val_tl xs, ← val_tl ys, ← e]
    exact cmp_all xs ys _ h
  have tlt : ∀ k, tl xs = tl ys → k < tl xs → xs.getD k 0 < ys.getD k 0 → (∀ j, k < j → j < tl xs → xs.getD j 0 = ys.getD j 0) → cmpN (val xs) (val ys) = -1 := fun k e h1 h2 h3 => by
    apply cmpN_lt
    rw [← val_tl xs, ← val_tl ys, ← e]
    exact cmp_top xs ys hwx k (hwx k).1 h2 _ h1 h3
  have tgt : ∀ k, tl xs = tl ys → k < tl xs → ys.getD k 0 < xs.getD k 0 → (∀ j, k < j → j < tl xs → xs.getD j 0 = ys.getD j 0) → cmpN (val xs) (val ys) = 1 := fun k e h1 h2 h3 => by
    apply cmpN_gt
    rw [← val_tl xs, ← val_tl ys, ← e]
    exact cmp_top ys xs hwy k (hwy k).1 h2 _ h1 (fun j a b => (h3 j a b).symm)
  obtain ⟨R, hR⟩ : ∃ R, R = cmpN (val xs) (val ys) := ⟨_, rfl⟩
  obtain ⟨N, hN⟩ : ∃ N, N = xs.length := ⟨_, rfl⟩
  obtain ⟨M, hM⟩ : ∃ M, M = ys.length := ⟨_, rfl⟩
  obtain ⟨S, hS⟩ : ∃ S, S = tl xs := ⟨_, rfl⟩
  obtain ⟨T, hT⟩ : ∃ T, T = tl ys := ⟨_, rfl⟩
  rw [← hS, ← hN] at h1 lS
  rw [← hT, ← hM] at h2 lT
  rw [← hS, ← hT, ← hR] at dlt dgt deq tlt tgt
  rw [← hN, ← hM, ← hR]
  have HX : Hid (Arr w p xs) := hx
  have HY : Hid (Arr w q ys) := hy
  have HN : Hid (N = xs.length ∧ M = ys.length) := ⟨hN, hM⟩
  have lS2 : S ≤ 1099511627776 := by omega
  clear hx hy hwx hwy lx ly hN hM hS hT hR
  rcases Nat.lt_trichotomy S T with cST | cST | cST
  · rw [dlt cST]
    have t1 : (S : Int) < (T : Int) := by omega
    clear dlt dgt deq tlt tgt HX HY HN cST lS lT
    go_enter Tryz.func75, Tryz.ntmps75
    go_wp2_with fail
    refine h1.mono ?_; rintro e w' ⟨rfl, hw'⟩; obtain rfl := hw'.symm
    go_wp2_with fail
    refine h2.mono ?_; rintro e w' ⟨rfl, hw'⟩; obtain rfl := hw'.symm
    go_wp2
    exact bodyPost_ret (v := .int .i64 (-1)) (by simp [results, Tryz.results75, go_sem] <;> simp only [*]) rfl ⟨rfl, hg⟩
  · subst cST
    have t1 : ¬ ((S : Int) < (S : Int)) := by omega
    have HD : Hid ((∀ j, j < S → xs.getD j 0 = ys.getD j 0) → R = 0) := deq rfl
    have HL : Hid (∀ k, k < S → xs.getD k 0 < ys.getD k 0 → (∀ j, k < j → j < S → xs.getD j 0 = ys.getD j 0) → R = -1) := fun k => tlt k rfl
    have HR : Hid (∀ k, k < S → ys.getD k 0 < xs.getD k 0 → (∀ j, k < j → j < S → xs.getD j 0 = ys.getD j 0) → R = 1) := fun k => tgt k rfl
    clear dlt dgt deq tlt tgt
    go_enter Tryz.func75, Tryz.ntmps75
    go_wp2_with fail
    refine h1.mono ?_; rintro e w' ⟨rfl, hw'⟩; obtain rfl := hw'.symm
    go_wp2_with fail
    refine h2.mono ?_; rintro e w' ⟨rfl, hw'⟩; obtain rfl := hw'.symm
    clear h1 h2
    go_wp2
    clear t1
    go_loopw [7] (fun i wr => ∃ (k : Nat) (z : Int), k ≤ S ∧ z = (k : Int) - 1 ∧ i = .int .i64 z ∧ Kp w wr ∧ ∀ j, k ≤ j → j < S → xs.getD j 0 = ys.getD j 0) (fun i _ => (intOf i + 1).toNat)
    case atStart => exact ⟨S, _, Nat.le_refl _, rfl, by go_num, hg, fun j _ _ => by omega⟩
    case round =>
      clear hg
      obtain ⟨k, z, hk, hz, rfl, hg, hs⟩ := hrel
      rcases k with _ | k
      · have hR0 := HD.out (fun j hj => hs j (Nat.zero_le _) hj)
        subst hR0
        have hz0 : z = -1 := by omega
        subst hz0
        clear hz HX HY HN HD HL HR hs hk lS lT
        go_wp2
        exact bodyPost_ret (v := .int .i64 (0)) (by simp [results, Tryz.results75, go_sem] <;> simp only [*]) rfl ⟨rfl, hg⟩
      · have hz0 : z = (k : Int) := by omega
        subst hz0
        obtain ⟨hN, hM⟩ := HN.out
        obtain ⟨b, off, rfl, hc⟩ := HX.out.at (k := k) (by omega)
        obtain ⟨b', off', rfl, hc'⟩ := HY.out.at (k := k) (by omega)
        have e1 := kkeep hg (hc k (by omega))
        have e2 := kkeep hg (hc' k (by omega))
        have i0 : (0 : Int) ≤ (k : Int) := by omega
        have i1 : (k : Int) < (N : Int) := by omega
        have i2 : (k : Int) < (M : Int) := by omega
        have rl := fun h => HL.out k (by omega) h (fun j a b => hs j (by omega) b)
        have rg := fun h => HR.out k (by omega) h (fun j a b => hs j (by omega) b)
        have re : xs.getD k 0 = ys.getD k 0 → ∀ j, k ≤ j → j < S → xs.getD j 0 = ys.getD j 0 := fun h j a b => by
          by_cases e : j = k
          · subst e; exact h
          · exact hs j (by omega) b
        obtain ⟨X, hX⟩ : ∃ X, X = xs.getD k 0 := ⟨_, rfl⟩
        obtain ⟨Y, hY⟩ : ∃ Y, Y = ys.getD k 0 := ⟨_, rfl⟩
        rw [← hX] at e1 rl rg re
        rw [← hY] at e2 rl rg re
        have hk2 : k ≤ S := by omega
        clear hc hc' HX HY HN HD HL HR hs hN hM hX hY hz hk lS lT
        rcases (by omega : X < Y ∨ Y < X ∨ X = Y) with cx | cx | cx
        · have hR1 := rl cx
          subst hR1
          clear rl rg re
          go_wp2
          refine wp_region_kp (by kernel_rfl) (by kernel_rfl) (fun ι _ G hG hall => ?_)
          have c0 : ∀ n, (G n).cell? ⟨b, off + k, none⟩ = some (.int .u32 X) := fun n => kkeep (hG n) e1
          have c1 : ∀ n, (G n).cell? ⟨b', off' + k, none⟩ = some (.int .u32 Y) := fun n => kkeep (hG n) e2
          repeat (go_big_quiet_step (fail))
          refine wpQuiet_nil ?_
          rintro _ ⟨nq, rfl⟩
          have gq := hG nq
          replace e1 := kkeep gq e1
          replace e2 := kkeep gq e2
          replace hg := hg.trans gq
          clear c0 c1 hall hG gq
          go_wp2
          exact bodyPost_ret (v := .int .i64 (-1)) (by simp [results, Tryz.results75, go_sem] <;> simp only [*]) rfl ⟨rfl, hg⟩
        · have hR1 := rg cx
          subst hR1
          have cy : ¬ (X < Y) := by omega
          clear rl rg re
          go_wp2
          refine wp_region_kp (by kernel_rfl) (by kernel_rfl) (fun ι _ G hG hall => ?_)
          have c0 : ∀ n, (G n).cell? ⟨b, off + k, none⟩ = some (.int .u32 X) := fun n => kkeep (hG n) e1
          have c1 : ∀ n, (G n).cell? ⟨b', off' + k, none⟩ = some (.int .u32 Y) := fun n => kkeep (hG n) e2
          repeat (go_big_quiet_step (fail))
          refine wpQuiet_nil ?_
          rintro _ ⟨nq, rfl⟩
          have gq := hG nq
          replace e1 := kkeep gq e1
          replace e2 := kkeep gq e2
          replace hg := hg.trans gq
          clear c0 c1 hall hG gq
          go_wp2
          refine wp_region_kp (by kernel_rfl) (by kernel_rfl) (fun ι2 _ G2 hG hall => ?_)
          have c0 : ∀ n, (G2 n).cell? ⟨b, off + k, none⟩ = some (.int .u32 X) := fun n => kkeep (hG n) e1
          have c1 : ∀ n, (G2 n).cell? ⟨b', off' + k, none⟩ = some (.int .u32 Y) := fun n => kkeep (hG n) e2
          repeat (go_big_quiet_step (fail))
          refine wpQuiet_nil ?_
          rintro _ ⟨nq2, rfl⟩
          have gq := hG nq2
          replace e1 := kkeep gq e1
          replace e2 := kkeep gq e2
          replace hg := hg.trans gq
          clear c0 c1 hall hG gq
          go_wp2
          exact bodyPost_ret (v := .int .i64 (1)) (by simp [results, Tryz.results75, go_sem] <;> simp only [*]) rfl ⟨rfl, hg⟩
        · have hs2 := re cx
          subst cx
          have cy : ¬ (X < X) := by omega
          clear rl rg re
          go_wp2
          refine wp_region_kp (by kernel_rfl) (by kernel_rfl) (fun ι _ G hG hall => ?_)
          have c0 : ∀ n, (G n).cell? ⟨b, off + k, none⟩ = some (.int .u32 X) := fun n => kkeep (hG n) e1
          have c1 : ∀ n, (G n).cell? ⟨b', off' + k, none⟩ = some (.int .u32 X) := fun n => kkeep (hG n) e2
          repeat (go_big_quiet_step (fail))
          refine wpQuiet_nil ?_
          rintro _ ⟨nq, rfl⟩
          have gq := hG nq
          replace e1 := kkeep gq e1
          replace e2 := kkeep gq e2
          replace hg := hg.trans gq
          clear c0 c1 hall hG gq
          go_wp2
          refine wp_region_kp (by kernel_rfl) (by kernel_rfl) (fun ι2 _ G2 hG hall => ?_)
          have c0 : ∀ n, (G2 n).cell? ⟨b, off + k, none⟩ = some (.int .u32 X) := fun n => kkeep (hG n) e1
          have c1 : ∀ n, (G2 n).cell? ⟨b', off' + k, none⟩ = some (.int .u32 X) := fun n => kkeep (hG n) e2
          repeat (go_big_quiet_step (fail))
          refine wpQuiet_nil ?_
          rintro _ ⟨nq2, rfl⟩
          have gq := hG nq2
          replace e1 := kkeep gq e1
          replace e2 := kkeep gq e2
          replace hg := hg.trans gq
          clear c0 c1 hall hG gq
          go_wp2
          exact ⟨⟨k, _, hk2, rfl, by go_num, hg, hs2⟩, by simp [intOf]⟩
  · rw [dgt cST]
    have t1 : ¬ ((S : Int) < (T : Int)) := by omega
    have t2 : (T : Int) < (S : Int) := by omega
    clear dlt dgt deq tlt tgt HX HY HN cST lS lT
    go_enter Tryz.func75, Tryz.ntmps75
    go_wp2_with fail
    refine h1.mono ?_; rintro e w' ⟨rfl, hw'⟩; obtain rfl := hw'.symm
    go_wp2_with fail
    refine h2.mono ?_; rintro e w' ⟨rfl, hw'⟩; obtain rfl := hw'.symm
    go_wp2
    exact bodyPost_ret (v := .int .i64 (1)) (by simp [results, Tryz.results75, go_sem] <;> simp only [*]) rfl ⟨rfl, hg⟩
end Go.Proofs.YteedfmghgkmofaaGreatDoor
namespace Go.Proofs.YteedfmghgkmofaaGreatDoor
open Go.RowKit
theorem row1 (w : World) (x : Int) : Rw (w.alloc (.cells #[.int .u32 x] 100)) w.heap.size 1 [x] := by
  have := World.rowIs_alloc w #[.int .u32 x] 100 (fun i => .int .u32 ([x].getD i 0)) (fun i hi => by
    have h : i = 0 := by simp at hi; omega
    rcases h with rfl; rfl)
  exact this
theorem own1 (w : World) : Own (w.alloc (.cells #[.int .u32 1] 100)) w.heap.size (.slice (some ⟨w.heap.size, 0, none⟩) 1 1) [1] :=
  Own.of_row (row1 w 1) (Nat.le_refl _) (Nat.le_refl _) rfl (by unfold maxLen; omega)
end Go.Proofs.YteedfmghgkmofaaGreatDoor
namespace Go.Proofs.YteedfmghgkmofaaGreatDoor
open Go.RowKit
set_option maxRecDepth 20000 in
set_option maxHeartbeats 1000000 in
theorem rsmall_ (v : Nat) (hv : v < 18446744073709551616) (w : World) :
    Calls Tryz.prog 72 #[.int .u64 (v : Int)] w fun e w' => ∃ r, e = .returned r ∧ Own w' w.heap.size r (dig v) ∧ Kp w w' := by
  have f0 := and32 v hv
  obtain ⟨lo, hlo⟩ : ∃ lo : Nat, lo = v % 4294967296 := ⟨_, rfl⟩
  obtain ⟨hi, hhi⟩ : ∃ hi : Nat, hi = v / 4294967296 := ⟨_, rfl⟩
  rw [← hlo] at f0
  have f1 : IntKind.u32.wrap (lo : Int) = (lo : Int) := by rw [IntKind.wrap_u32]; omega
  have f2 : (v : Int) / 4294967296 = (hi : Int) := by omega
  have f3 : IntKind.u32.wrap (hi : Int) = (hi : Int) := by rw [IntKind.wrap_u32]; omega
  have hw : Wd [(lo : Int), (hi : Int)] := Wd.mk (by omega) (Wd.mk (by omega) Wd.nil)
  have hval : val [(lo : Int), (hi : Int)] = v := by simp [val]; omega
  have hr := row2 w (lo : Int) (hi : Int)
  have hk : Kp w (w.alloc (.cells #[.int .u32 (lo : Int), .int .u32 (hi : Int)] 100)) := (Kp.refl w).alloc _
  have hno := rnorm_ (some ⟨w.heap.size, 0, none⟩) 2 [(lo : Int), (hi : Int)] _ (by simpa using hr.arr 2 (Nat.le_refl _) (by simp)) (by simp)
  rw [nz_dig _ hw, hval] at hno
  obtain ⟨Z, hZ⟩ : ∃ Z, Z = dig v := ⟨_, rfl⟩
  rw [← hZ] at hno ⊢
  have hno2 : Calls Tryz.prog 77 #[.slice (some ⟨w.heap.size, 0, none⟩) 2 2] (w.alloc (.cells #[.int .u32 (lo : Int), .int .u32 (hi : Int)] 100)) fun e w' => ∃ v, e = .returned v ∧ Own w' (w.alloc (.cells #[.int .u32 (lo : Int), .int .u32 (hi : Int)] 100)).heap.size v Z ∧ Kp (w.alloc (.cells #[.int .u32 (lo : Int), .int .u32 (hi : Int)] 100)) w' := hno
  clear hno hZ hval hw hlo hhi hv hr
  go_enter Tryz.func72, Tryz.ntmps72
  go_wp2_with fail
  refine hno2.mono ?_; rintro e w1 ⟨r, rfl, hO, hk2⟩
  have hO2 := hO.mono hk.size
  have hk3 := hk.trans hk2
  clear hno2 hO hk hk2
  go_wp2
  exact bodyPost_ret (v := r) (by simp [results, Tryz.results72, go_sem] <;> simp only [*]) rfl ⟨_, rfl, hO2, hk3⟩
end Go.Proofs.YteedfmghgkmofaaGreatDoor
namespace Go.Proofs.YteedfmghgkmofaaGreatDoor
open Go.RowKit
set_option maxRecDepth 20000 in
set_option maxHeartbeats 1000000 in
theorem rbit_ (p : Option Addr) (c i j : Nat) (xs : List Int) (w : World) (hx : Arr w p xs) (hwx : Wd xs) (lx : xs.length ≤ 16777216) (hi : i < xs.length) (hj : j < 32) :
    Calls Tryz.prog 137 #[.slice p xs.length c, .int .i64 ((32 * i + j : Nat) : Int)] w fun e w' => e = .returned (.int .u32 ((xs.getD i 0).toNat / 2 ^ j % 2 : Nat)) ∧ w' = w := by
  obtain ⟨N, hN⟩ : ∃ N, N = xs.length := ⟨_, rfl⟩
  obtain ⟨b, off, rfl, hc⟩ := hx.at hi
  have e1 := hc i hi
  have wx := hwx i
  obtain ⟨X, hX⟩ : ∃ X : Nat, (X : Int) = xs.getD i 0 := ⟨(xs.getD i 0).toNat, by omega⟩
  rw [← hX] at e1 ⊢
  rw [Int.toNat_natCast]
  obtain ⟨k, hk⟩ : ∃ k, k = 32 * i + j := ⟨_, rfl⟩
  rw [← hk, ← hN]
  have t0 : ¬ ((k : Int) < 0) := by omega
  have f1 : (k : Int) / 32 = (i : Int) := by omega
  have f2 : (k : Int) % 32 = (j : Int) := by omega
  have i0 : (0 : Int) ≤ (i : Int) := by omega
  have i1 : (i : Int) < (N : Int) := by omega
  have i2 : ¬ ((N : Int) ≤ (i : Int)) := by omega
  have f3 : IntKind.u64.wrap (j : Int) = (j : Int) := by rw [IntKind.wrap_u64]; omega
  have f7 : wrap64 (i : Int) = (i : Int) := by unfold wrap64; omega
  have f8 : wrap64 (j : Int) = (j : Int) := by unfold wrap64; omega
  obtain ⟨Q, hQ⟩ : ∃ Q, Q = X / 2 ^ j := ⟨_, rfl⟩
  rw [← hQ]
  have hQX : Q ≤ X := by rw [hQ]; exact Nat.div_le_self _ _
  have f4 : (X : Int) / 2 ^ j = (Q : Int) := by rw [hQ]; push_cast; rfl
  have f5 : bits BinOp.and IntKind.u32 (Q : Int) 1 = ((Q % 2 : Nat) : Int) := by
    have := u32_and_nat Q 1 (by omega) (by omega)
    rw [Nat.and_one_is_mod] at this
    exact this
  obtain ⟨B, hB⟩ : ∃ B, B = Q % 2 := ⟨_, rfl⟩
  rw [← hB] at f5 ⊢
  clear hx hwx lx hi hc wx hX hk hN hQ hQX hB
  go_enter Tryz.func137, Tryz.ntmps137
  go_wp2
  exact bodyPost_ret (v := .int .u32 (B : Int)) (by simp [results, Tryz.results137, go_sem] <;> simp only [*]) rfl ⟨rfl, rfl⟩
set_option maxRecDepth 20000 in
set_option maxHeartbeats 1000000 in
theorem rzeros_ (p : Option Addr) (c : Nat) (xs : List Int) (w : World) (hx : Arr w p xs) (hwx : Wd xs) (lx : xs.length ≤ 16777216) :
    Calls Tryz.prog 110 #[.slice p xs.length c] w fun e w' => e = .returned (.int .i64 (ctz (val xs) : Nat)) ∧ w' = w := by
  have h1 := words_ p c xs w hx (by omega)
  have lS := tl_le xs
  obtain ⟨R, hR⟩ : ∃ R, R = ctz (val xs) := ⟨_, rfl⟩
  rcases Nat.eq_zero_or_pos (tl xs) with h0 | h0
  · have e0 : val xs = 0 := by rw [← val_tl xs, h0]; rfl
    rw [h0] at h1
    rw [e0, ctz_zero]
    obtain ⟨N, hN⟩ : ∃ N, N = xs.length := ⟨_, rfl⟩
    rw [← hN] at h1 ⊢
    clear hx hwx lx lS h0 e0 hN hR
    go_enter Tryz.func110, Tryz.ntmps110
    go_wp2_with fail
    refine h1.mono ?_; rintro e w' ⟨rfl, hw'⟩; obtain rfl := hw'.symm
    go_wp2
    exact bodyPost_ret (v := .int .i64 0) (by simp [results, Tryz.results110, go_sem] <;> simp only [*]) rfl ⟨rfl, rfl⟩
  · have hbit := fun (i j : Nat) hi hj => rbit_ p c i j xs w hx hwx lx hi hj
    have htop : xs.getD (tl xs - 1) 0 ≠ 0 := by
      rcases (tl_spec xs xs.length).2 with e | e
      · exfalso; have : tl xs = 0 := e; omega
      · exact e
    obtain ⟨N, hN⟩ : ∃ N, N = xs.length := ⟨_, rfl⟩
    obtain ⟨S, hS⟩ : ∃ S, S = tl xs := ⟨_, rfl⟩
    rw [← hN, ← hS] at h1
    rw [← hS] at htop h0 lS
    rw [← hR]
    rw [← hN] at hbit lS lx ⊢
    have t0 : ((S : Int) == 0) = false := by simp; omega
    have HX : Hid (Arr w p xs ∧ Wd xs ∧ N = xs.length ∧ R = ctz (val xs) ∧ xs.getD (S - 1) 0 ≠ 0 ∧ 0 < S ∧ S ≤ N) := ⟨hx, hwx, hN, hR, htop, h0, lS⟩
    have HB : Hid (∀ (i j : Nat), i < N → j < 32 → Calls Tryz.prog 137 #[.slice p N c, .int .i64 ((32 * i + j : Nat) : Int)] w fun e w' => e = .returned (.int .u32 ((xs.getD i 0).toNat / 2 ^ j % 2 : Nat)) ∧ w' = w) := hbit
    clear hx hwx hN hR hbit htop h0 hS lS
    go_enter Tryz.func110, Tryz.ntmps110
    go_wp2_with fail
    refine h1.mono ?_; rintro e w' ⟨rfl, hw'⟩; obtain rfl := hw'.symm
    clear h1
    go_wp2
    clear t0
    go_loop [3] (fun z => ∃ i : Nat, z = .int .i64 ((32 * i : Nat) : Int) ∧ i < S ∧ ∀ j, j < i → xs.getD j 0 = 0) (fun z => 32 * S - (intOf z).toNat)
    case atStart => exact ⟨0, rfl, HX.out.2.2.2.2.2.1, fun j h => by omega⟩
    case round =>
      obtain ⟨i, rfl, hi, hz⟩ := hrel
      obtain ⟨hx, hwx, hN, hR, htop, h0, lS⟩ := HX.out
      obtain ⟨b, off, rfl, hc⟩ := hx.at (k := i) (by omega)
      have e1 := hc i (by omega)
      obtain ⟨k, hk⟩ : ∃ k, k = 32 * i := ⟨_, rfl⟩
      rw [← hk]
      have f1 : (k : Int) / 32 = (i : Int) := by omega
      have i0 : (0 : Int) ≤ (i : Int) := by omega
      have i1 : (i : Int) < (N : Int) := by omega
      have hkb : k ≤ 536870912 := by omega
      by_cases cx : xs.getD i 0 = 0
      · have hi2 : i + 1 < S := by
          by_cases e : i = S - 1
          · subst e; exact absurd cx htop
          · omega
        have HZ : Hid ((∀ j, j < i + 1 → xs.getD j 0 = 0) ∧ k = 32 * i) := ⟨fun j hj => by
          by_cases e : j = i
          · subst e; exact cx
          · exact hz j (by omega), hk⟩
        rw [cx] at e1
        clear HX HB hx hwx hN hR htop h0 lS hc cx hz hk
        go_wp2
        exact ⟨⟨i + 1, by have := HZ.out.2; go_num, hi2, HZ.out.1⟩, by have := HZ.out.2; simp [intOf]; omega⟩
      · have wx := hwx i
        obtain ⟨X, hX⟩ : ∃ X : Nat, (X : Int) = xs.getD i 0 := ⟨(xs.getD i 0).toNat, by omega⟩
        have HX2 : Hid (R = ctz (val xs) ∧ (∀ j, j < i → xs.getD j 0 = 0) ∧ i < xs.length ∧ (X : Int) = xs.getD i 0 ∧ X ≠ 0 ∧ X < 4294967296 ∧ k = 32 * i ∧ i < N) := ⟨hR, hz, by omega, hX, by omega, by omega, hk, by omega⟩
        rw [← hX] at e1
        have t1 : ((X : Int) == 0) = false := by simp; omega
        clear HX hx hwx hN hR htop h0 lS hc cx hz wx hX
        go_wp2
        clear e1 t1 f1 i0 i1 hk hi
        go_loop [3] (fun z => ∃ j : Nat, z = .int .i64 ((32 * i + j : Nat) : Int) ∧ j < 32 ∧ X % 2 ^ j = 0) (fun z => 32 * (i + 1) - (intOf z).toNat)
        case atStart => exact ⟨0, by simp, by omega, by simp [Nat.mod_one]⟩
        case round =>
          obtain ⟨j, rfl, hj, hm⟩ := hrel
          obtain ⟨hR, hz, hi, hX, hX0, hX32, hk, hiN⟩ := HX2.out
          have h2 := HB.out i j hiN hj
          rw [← hX, Int.toNat_natCast] at h2
          have hXd : X = X / 2 ^ j * 2 ^ j := by
            have := Nat.div_add_mod X (2 ^ j)
            rw [hm, Nat.add_zero, Nat.mul_comm] at this
            exact this.symm
          obtain ⟨Q, hQ⟩ : ∃ Q, Q = X / 2 ^ j := ⟨_, rfl⟩
          rw [← hQ] at h2 hXd
          rcases (by omega : Q % 2 = 0 ∨ Q % 2 = 1) with cq | cq
          · rw [cq] at h2
            have hj2 : j + 1 < 32 := by
              by_cases e : j = 31
              · exfalso
                subst e
                have : Q = 0 ∨ 2 ≤ Q := by omega
                rcases this with q0 | q0
                · rw [q0] at hXd; simp at hXd; exact hX0 hXd
                · have : 2 * 2 ^ 31 ≤ Q * 2 ^ 31 := Nat.mul_le_mul_right _ q0
                  omega
              · omega
            have HM : Hid (X % 2 ^ (j + 1) = 0) := by
              show X % 2 ^ (j + 1) = 0
              rw [hXd, Nat.pow_succ, Nat.mul_comm Q, Nat.mul_mod_mul_left, cq, Nat.mul_zero]
            obtain ⟨z, hz2⟩ : ∃ z, z = 32 * i + j := ⟨_, rfl⟩
            rw [← hz2] at h2 ⊢
            have hzb : z ≤ 536870944 := by omega
            have HZ : Hid (z = 32 * i + j) := hz2
            clear HX2 HB hR hz hi hX hX0 hX32 hk hiN hXd hQ cq hm hz2
            go_wp2_with fail
            refine h2.mono ?_; rintro e w' ⟨rfl, hw'⟩; obtain rfl := hw'.symm
            clear h2
            go_wp2
            exact ⟨⟨j + 1, by have := HZ.out; go_num, hj2, HM.out⟩, by have := HZ.out; simp [intOf]; omega⟩
          · rw [cq] at h2
            have hRv := ctz_val xs i Q j hz hi cq hj (by rw [← hX, Int.toNat_natCast]; exact hXd)
            rw [← hR] at hRv
            rw [← hRv] at h2 ⊢
            clear HX2 HB hR hz hi hX hX0 hX32 hk hiN hXd hQ cq hm hRv
            go_wp2_with fail
            refine h2.mono ?_; rintro e w' ⟨rfl, hw'⟩; obtain rfl := hw'.symm
            clear h2
            go_wp2
            exact bodyPost_ret (v := .int .i64 (R : Int)) (by simp [results, Tryz.results110, go_sem] <;> simp only [*]) rfl ⟨rfl, rfl⟩
end Go.Proofs.YteedfmghgkmofaaGreatDoor
namespace Go.Proofs.YteedfmghgkmofaaGreatDoor
open Go.RowKit
set_option maxRecDepth 20000 in
set_option maxHeartbeats 3000000 in
theorem rright_ (p : Option Addr) (c m : Nat) (xs : List Int) (w : World) (hx : Arr w p xs) (hwx : Wd xs) (lx : xs.length ≤ 1048576) (hm9 : (m : Int) < 9223372036854775808) :
    Calls Tryz.prog 111 #[.slice p xs.length c, .int .i64 (m : Int)] w fun e w' => ∃ v, e = .returned (.tuple #[v, .bool (decide (val xs % 2 ^ m ≠ 0))]) ∧ Own w' w.heap.size v (dig (val xs / 2 ^ m)) ∧ Kp w w' := by
  have h1 := words_ p c xs w hx (by omega)
  have lS := tl_le xs
  obtain ⟨o, ho⟩ : ∃ o, o = m / 32 := ⟨_, rfl⟩
  obtain ⟨s, hs⟩ : ∃ s, s = m % 32 := ⟨_, rfl⟩
  have hpd := pow_div (val xs) m
  rw [← ho, ← hs] at hpd
  have hps := pow_split m
  rw [← ho, ← hs, Nat.mul_comm] at hps
  have hs32 : s < 32 := by omega
  have f1 : (m : Int) / 32 = (o : Int) := by omega
  have f2 : (m : Int) % 32 = (s : Int) := by omega
  have hz0 : tl xs = 0 → val xs = 0 := fun h => by rw [← val_tl xs, h]; rfl
  have hz1 : tl xs ≠ 0 → val xs ≠ 0 := fun h h2 => by
    have := val_ge_tl xs hwx 0 (by omega)
    rw [h2] at this
    simp at this
  rcases Nat.eq_zero_or_pos (tl xs) with h0 | h0
  · have e0 := hz0 h0
    rw [e0, Nat.zero_mod, Nat.zero_div, dig_zero]
    rw [h0] at h1
    obtain ⟨N, hN⟩ : ∃ N, N = xs.length := ⟨_, rfl⟩
    rw [← hN] at h1 ⊢
    have hb : decide ((0 : Nat) ≠ 0) = false := by simp
    rw [hb]
    clear hx hwx lx lS hN h0 e0 hz0 hz1 hpd hps hs32 ho hs hm9 hb
    go_enter Tryz.func111, Tryz.ntmps111
    go_wp2_with fail
    refine h1.mono ?_; rintro e w' ⟨rfl, hw'⟩; obtain rfl := hw'.symm
    go_wp2
    exact bodyPost_ret (v := .tuple #[.slice none 0 0, .bool false]) (by simp [results, Tryz.results111, go_sem] <;> simp only [*]) rfl ⟨_, rfl, Own.nil _ _, Kp.refl _⟩
  have hv0 := hz1 (by omega)
  by_cases co : tl xs ≤ o
  · have hlt : val xs < 4294967296 ^ o := by
      have h2 := val_take_lt xs hwx (tl xs)
      rw [val_tl] at h2
      exact Nat.lt_of_lt_of_le h2 (Nat.pow_le_pow_right (by decide) co)
    have e0 : val xs / 2 ^ m = 0 := by rw [hpd, Nat.div_eq_of_lt hlt, Nat.zero_div]
    have e2 : val xs % 2 ^ m = val xs := Nat.mod_eq_of_lt (by rw [← hps]; exact Nat.lt_of_lt_of_le hlt (Nat.le_mul_of_pos_right _ (Nat.two_pow_pos s)))
    have hb : decide (val xs % 2 ^ m ≠ 0) = true := decide_eq_true (by rw [e2]; exact hv0)
    rw [e0, hb, dig_zero]
    obtain ⟨N, hN⟩ : ∃ N, N = xs.length := ⟨_, rfl⟩
    obtain ⟨S, hS⟩ : ∃ S, S = tl xs := ⟨_, rfl⟩
    rw [← hN, ← hS] at h1
    rw [← hN]
    rw [← hS] at co h0
    have t0 : ((S : Int) == 0) = false := by simp; omega
    have t1 : (S : Int) ≤ (o : Int) := by omega
    have f3 := w64 (o : Int) (Int.natCast_nonneg _) (by omega)
    clear hx hwx lx lS hN h0 e0 hz0 hz1 hpd hps hs32 ho hs hm9 hb hS co hv0 hlt e2
    go_enter Tryz.func111, Tryz.ntmps111
    go_wp2_with fail
    refine h1.mono ?_; rintro e w' ⟨rfl, hw'⟩; obtain rfl := hw'.symm
    go_wp2
    exact bodyPost_ret (v := .tuple #[.slice none 0 0, .bool true]) (by simp [results, Tryz.results111, go_sem] <;> simp only [*]) rfl ⟨_, rfl, Own.nil _ _, Kp.refl _⟩
  obtain ⟨b, off, rfl, hcx⟩ := hx.at (k := 0) (by omega)
  have hnl := nz_length xs
  have hg : ∀ j, j < tl xs → (nz xs).getD j 0 = xs.getD j 0 := fun j hj => by unfold nz; simp [List.getD, hj]
  have hvn := val_nz xs
  have hwn : Wd (nz xs) := hwx.take _
  obtain ⟨zs, hzs⟩ : ∃ zs, zs = nz xs := ⟨_, rfl⟩
  rw [← hzs] at hnl hg hvn hwn
  rw [← hvn] at hpd ⊢
  have hc : ∀ j, j < zs.length → w.cell? ⟨b, off + j, none⟩ = some (.int .u32 (zs.getD j 0)) := fun j hj => by rw [hg j (by omega)]; exact hcx j (by omega)
  obtain ⟨S, hS⟩ : ∃ S, S = tl xs := ⟨_, rfl⟩
  obtain ⟨N, hN⟩ : ∃ N, N = xs.length := ⟨_, rfl⟩
  rw [← hS] at h1 lS co h0 hnl
  rw [← hN] at h1 lS lx ⊢
  have wX := hwn o
  obtain ⟨X0, hX0⟩ : ∃ X0 : Nat, zs.getD o 0 = (X0 : Int) := ⟨(zs.getD o 0).toNat, by omega⟩
  have hlm := lost_mod zs hwn o s X0 hs32 (by omega) hX0
  rw [hps] at hlm
  have hlw := lost_word X0 s hs32
  rw [(val_div zs hwn o (by omega)).1] at hpd
  have hyl : (zs.drop o).length = S - o := by rw [List.length_drop, hnl]
  have hwy := hwn.drop o
  have hyz : ∀ j, (zs.drop o).getD j 0 = zs.getD (o + j) 0 := fun j => by simp [List.getD, List.getElem?_drop]
  obtain ⟨ys, hys⟩ : ∃ ys, ys = zs.drop o := ⟨_, rfl⟩
  rw [← hys] at hpd hyl hwy hyz
  rw [hpd]
  obtain ⟨RB, hRB⟩ : ∃ RB, RB = decide (val zs % 2 ^ m ≠ 0) := ⟨_, rfl⟩
  rw [← hRB]
  have e1 := hc o (by omega)
  rw [hX0] at e1
  obtain ⟨A1, hA1⟩ : ∃ A1, A1 = X0 * 2 ^ (31 - s) % 4294967296 := ⟨_, rfl⟩
  rw [← hA1] at hlw
  have f4 : IntKind.u32.wrap ((X0 : Int) * 2 ^ (31 - s)) = (A1 : Int) := by rw [IntKind.wrap_u32, hA1]; exact (cast_shl X0 (31 - s)).symm
  obtain ⟨A2, hA2⟩ : ∃ A2, A2 = A1 * 2 % 4294967296 := ⟨_, rfl⟩
  have f5 : IntKind.u32.wrap ((A1 : Int) * 2) = (A2 : Int) := by rw [IntKind.wrap_u32, hA2]; omega
  rw [← hA2] at hlw
  have f6 : IntKind.u64.wrap (s : Int) = (s : Int) := by rw [IntKind.wrap_u64]; omega
  have f7 : IntKind.u64.wrap (31 - (s : Int)) = 31 - (s : Int) := by rw [IntKind.wrap_u64]; omega
  have i11 : (31 - (s : Int)).toNat = 31 - s := by omega
  have i10 : (0 : Int) ≤ 31 - (s : Int) := by omega
  have i9 : (0 : Int) ≤ (s : Int) := by omega
  have t0 : ((S : Int) == 0) = false := by simp; omega
  have t1 : ¬ ((S : Int) ≤ (o : Int)) := by omega
  have iz : (0 : Int) ≤ (o : Int) := by omega
  have i1 : (o : Int) < (N : Int) := by omega
  have lo : o ≤ 1048576 := by omega
  have hlost : ∃ LB : Bool, LB = decide (X0 % 2 ^ s ≠ 0) ∧ ((A2 : Int) != 0) = LB ∧ (LB = true → (0 : Int) < (s : Int)) := by
    refine ⟨_, rfl, ?_, fun h => ?_⟩
    · by_cases e : X0 % 2 ^ s = 0
      · have : A2 = 0 := by rw [hlw, e, Nat.zero_mul]
        simp [e, this]
      · have : 0 < A2 := by rw [hlw]; exact Nat.mul_pos (by omega) (Nat.two_pow_pos _)
        simp [e]; omega
    · by_cases e : s = 0
      · rw [e, Nat.pow_zero, Nat.mod_one] at h; simp at h
      · omega
  obtain ⟨LB, hLB, t2, t3⟩ := hlost
  have HX2 : Hid (Wd zs ∧ zs.length = S ∧ ys.length = S - o ∧ Wd ys ∧ (∀ j, j < zs.length → w.cell? ⟨b, off + j, none⟩ = some (.int .u32 (zs.getD j 0))) ∧ (∀ j, ys.getD j 0 = zs.getD (o + j) 0) ∧ s < 32 ∧ S ≤ N) := ⟨hwn, hnl, hyl, hwy, hc, hyz, hs32, lS⟩
  have HR : Hid (RB = decide (val zs % 2 ^ m ≠ 0) ∧ (val zs % 2 ^ m ≠ 0 ↔ X0 % 2 ^ s ≠ 0 ∨ val (zs.take o) ≠ 0) ∧ LB = decide (X0 % 2 ^ s ≠ 0)) := ⟨hRB, hlm, hLB⟩
  have lS2 : S ≤ 1048576 := by omega
  have hoS : o < S := by omega
  clear hx hwx lx lS hN h0 hz0 hz1 hpd hps hs32 ho hs hm9 hS co hv0 hcx hnl hg hvn hwn hzs hc wX hX0 hlm hlw hyl hwy hyz hys hRB hA1 hA2 hLB
  go_enter Tryz.func111, Tryz.ntmps111
  go_wp2_with fail
  refine h1.mono ?_; rintro e w' ⟨rfl, hw'⟩; obtain rfl := hw'.symm
  clear h1
  rcases LB with _ | _
  · go_wp2
    clear t2 t3 e1 f4 f5 f7 i10 i11 t0 t1
    go_loop [8, 9] (fun lb i => ∃ (k : Nat) (B : Bool), i = .int .i64 k ∧ k ≤ o ∧ lb = .bool B ∧ (B = true ↔ X0 % 2 ^ s ≠ 0 ∨ val (zs.take k) ≠ 0)) (fun _ i => o - (intOf i).toNat)
    case atStart => exact ⟨0, false, rfl, Nat.zero_le _, (by first | rfl | (simp; omega)), by
      have h := HR.out.2.2
      simp at h
      simp [val, h]⟩
    case round =>
      obtain ⟨k, B, rfl, hk, rfl, hB⟩ := hrel
      obtain ⟨hwz, hzl, hyl, hwy, hc, hyz, hs32, lS⟩ := HX2.out
      by_cases ck : k < o
      · have e1 := hc k (by omega)
        have wz := hwz k
        have hts := val_take_succ zs k
        obtain ⟨X, hX⟩ : ∃ X : Nat, zs.getD k 0 = (X : Int) := ⟨(zs.getD k 0).toNat, by omega⟩
        rw [hX] at e1 hts
        rw [Int.toNat_natCast] at hts
        have hp : 0 < 4294967296 ^ k := Nat.pow_pos (by decide)
        have j0 : (0 : Int) ≤ (k : Int) := by omega
        have j1 : (k : Int) < (o : Int) := by omega
        have j2 : (k : Int) < (N : Int) := by omega
        cases B with
        | true =>
          have HB : Hid (X0 % 2 ^ s ≠ 0 ∨ val (zs.take (k + 1)) ≠ 0) := by
            show X0 % 2 ^ s ≠ 0 ∨ val (zs.take (k + 1)) ≠ 0
            rcases hB.1 rfl with q | q
            · exact Or.inl q
            · right; omega
          clear HX2 HR hwz hzl hyl hwy hc hyz hs32 lS hX hts hp wz hB
          go_wp2
          exact ⟨⟨k + 1, true, by go_num, by omega, rfl, ⟨fun _ => HB.out, fun _ => rfl⟩⟩, by simp [intOf]; omega⟩
        | false =>
          have hB2 : ¬ (X0 % 2 ^ s ≠ 0 ∨ val (zs.take k) ≠ 0) := fun h => by have := hB.2 h; cases this
          by_cases cx : X = 0
          · have HB : Hid (¬ (X0 % 2 ^ s ≠ 0 ∨ val (zs.take (k + 1)) ≠ 0)) := by
              show ¬ (X0 % 2 ^ s ≠ 0 ∨ val (zs.take (k + 1)) ≠ 0)
              rw [hts, cx, Nat.zero_mul, Nat.add_zero]; exact hB2
            have t4 : ((X : Int) != 0) = false := by simp [cx]
            clear HX2 HR hwz hzl hyl hwy hc hyz hs32 lS hX hts hp wz hB hB2 cx
            go_wp2
            exact ⟨⟨k + 1, false, by go_num, by omega, rfl, ⟨fun h => (by cases h), fun h => absurd h HB.out⟩⟩, by simp [intOf]; omega⟩
          · have HB : Hid (X0 % 2 ^ s ≠ 0 ∨ val (zs.take (k + 1)) ≠ 0) := by
              show X0 % 2 ^ s ≠ 0 ∨ val (zs.take (k + 1)) ≠ 0
              right
              have : 0 < X * 4294967296 ^ k := Nat.mul_pos (by omega) hp
              omega
            have t4 : ((X : Int) != 0) = true := by simp; omega
            clear HX2 HR hwz hzl hyl hwy hc hyz hs32 lS hX hts hp wz hB hB2 cx
            go_wp2
            exact ⟨⟨k + 1, true, by go_num, by omega, rfl, ⟨fun _ => HB.out, fun _ => rfl⟩⟩, by simp [intOf]; omega⟩
      · have hko : k = o := by omega
        subst hko
        have hRB : RB = B := by
          rw [HR.out.1]
          cases B with
          | true => exact decide_eq_true (HR.out.2.1.2 (hB.1 rfl))
          | false => exact decide_eq_false (fun h => by have := hB.2 (HR.out.2.1.1 h); cases this)
        subst hRB
        have j1 : ¬ ((k : Int) < (k : Int)) := by omega
        obtain ⟨i0, hi0, hi1, hi2, hi3⟩ := inf32p
        clear HR hB hwz hzl hyl hwy hc hyz hs32 lS hk ck
        go_wp2
        clear j1
        obtain ⟨o, ho⟩ : ∃ o, o = k := ⟨_, rfl⟩
        subst ho
        go_loopw [10, 11] (fun a ii wr => ∃ (v : Value) (k : Nat) (Ls : List Int), v = a ∧ ii = .int .i64 ((o : Int) + (k : Int)) ∧ o + k ≤ S ∧ Own wr w.heap.size v Ls ∧ Kp w wr ∧ Ls.length = k ∧ Wd Ls ∧ (∀ j, j < k → Ls.getD j 0 = ((val ys / 2 ^ s / 4294967296 ^ j % 4294967296 : Nat) : Int))) (fun _ i _ => S - (intOf i).toNat)
        case atStart => exact ⟨_, 0, [], rfl, by simp, by omega, Own.nil _ _, Kp.refl _, rfl, Wd.nil, fun j h => by omega⟩
        case round =>
          obtain ⟨v, k, Ls, rfl, rfl, hk, hown, hkp, hll, hwl, hdg⟩ := hrel
          obtain ⟨hwz, hzl, hyl, hwy, hc, hyz, hs32, lS⟩ := HX2.out
          by_cases ck : o + k < S
          · have e1 := kkeep hkp (hc (o + k) (by omega))
            have w1 := hwz (o + k)
            have w2 := hwz (o + k + 1)
            obtain ⟨X, hgx⟩ : ∃ X : Nat, zs.getD (o + k) 0 = (X : Int) := ⟨(zs.getD (o + k) 0).toNat, by omega⟩
            obtain ⟨Y, hgy1⟩ : ∃ Y : Nat, zs.getD (o + k + 1) 0 = (Y : Int) := ⟨(zs.getD (o + k + 1) 0).toNat, by omega⟩
            have hX32 : X < 4294967296 := by omega
            have hY32 : Y < 4294967296 := by omega
            have hX : ys.getD k 0 = (X : Int) := by rw [hyz k]; exact hgx
            have hYd : ys.getD (k + 1) 0 = (Y : Int) := by rw [hyz (k + 1)]; exact hgy1
            have hrw := right_word ys hwy k s X Y hs32 (by omega) hX hYd
            rw [hgx] at e1
            clear w1 w2
            by_cases cl : o + k + 1 < S
            · skip
              have f3 : IntKind.u64.wrap (X : Int) = (X : Int) := by rw [IntKind.wrap_u64]; omega
              have e2 := kkeep hkp (hc (o + k + 1) (by omega))
              rw [hgy1] at e2
              have f4 : IntKind.u64.wrap (Y : Int) = (Y : Int) := by rw [IntKind.wrap_u64]; omega
              have f5 : IntKind.u64.wrap ((Y : Int) * 4294967296) = ((Y * 4294967296 : Nat) : Int) := by rw [IntKind.wrap_u64]; omega
              have f6 := bits_or_u64_nat X (Y * 4294967296) (by omega) (by omega)
              have e3 : X ||| Y * 4294967296 = X + Y * 4294967296 := or_low X Y 32 (by omega)
              rw [e3] at f6
              obtain ⟨YB, hYB⟩ : ∃ YB, YB = Y * 4294967296 := ⟨_, rfl⟩
              rw [← hYB] at f5 f6 hrw
              obtain ⟨V, hV⟩ : ∃ V, V = X + YB := ⟨_, rfl⟩
              rw [← hV] at f6 hrw
              have hV64 : V < 18446744073709551616 := by omega
              obtain ⟨Q, hQ⟩ : ∃ Q, Q = V / 2 ^ s := ⟨_, rfl⟩
              have f7 : (V : Int) / 2 ^ s = (Q : Int) := by rw [hQ]; push_cast; rfl
              have hQ64 : Q < 18446744073709551616 := by rw [hQ]; exact Nat.lt_of_le_of_lt (Nat.div_le_self _ _) hV64
              have f8 := and32 Q hQ64
              rw [← hQ] at hrw
              obtain ⟨Z, hZ⟩ : ∃ Z, Z = Q % 4294967296 := ⟨_, rfl⟩
              rw [← hZ] at f8 hrw
              have f9 : IntKind.u32.wrap (Z : Int) = (Z : Int) := by rw [IntKind.wrap_u32]; omega
              have hWL : Wd (Ls ++ [(Z : Int)]) := hwl.append (Wd.one (by omega))
              have HD : Hid (∀ j, j < k + 1 → (Ls ++ [(Z : Int)]).getD j 0 = ((val ys / 2 ^ s / 4294967296 ^ j % 4294967296 : Nat) : Int)) := fun j hj => by
                by_cases e : j = k
                · subst e; rw [hrw]; simp [List.getD, hll]
                · rw [← hdg j (by omega)]; simp [List.getD, List.getElem?_append, show j < Ls.length from by omega]
              have hob := own_block hown
              have hown' : wr.ownsRow w.heap.size 100 1 v k (Ls.map (Value.int .u32)) := by rw [← hll]; exact hown
              have hsz := hkp.size
              have j0 : (0 : Int) ≤ (o : Int) + (k : Int) := by omega
              have j1 : (o : Int) + (k : Int) < (N : Int) := by omega
              have j2 : (o : Int) + (k : Int) < (S : Int) := by omega
              have j3 : ((o : Int) + (k : Int) + 1 < (S : Int)) := by omega
              have j4 : (0 : Int) ≤ (o : Int) + (k : Int) + 1 := by omega
              have j5 : (o : Int) + (k : Int) + 1 < (N : Int) := by omega
              have hkb : k ≤ 1048576 := by omega
              clear HX2 hwz hzl hyl hwy hc hX hYd hgx hyz hrw hdg hwl hown hQ hZ hV64 hQ64 hV hYB e3 hgy1
              go_wp2_with (first | (at_builtin; refine wpList_append_own _ rfl _ _ 41 rfl w.heap.size 100 i0 (.int .u32 0) 1 4 Tryz.underlying41 hi0 hi1 hi2 hi3 rfl (by decide) _ _ _ rfl (hown'.alloc _) ⟨wr.heap.size, 0, none⟩ 1 1 [.int .u32 (Z : Int)] rfl rfl ?c1mf ?c2mf ?c3mf ?c4mf ?c5mf ?_))
              try case c1mf =>
                intro j' u hj'
                match j', hj' with
                | 0, hj' => simp at hj'; subst hj'; simp [Addr.add]
              case c2mf => first | rfl | (intro u hu; simp at hu; subst hu; rfl)
              case c3mf => unfold maxLen; omega
              case c4mf => omega
              case c5mf => first | omega | (simp; omega)
              intro v' w1 hown2 hgrow _
              have hO : Own w1 w.heap.size v' (Ls ++ [(Z : Int)]) := by refine Own.push ?_; rw [hll]; exact hown2
              have hK2 : Kp w w1 := (hkp.alloc _).grown hgrow hob
              clear hown2 hgrow hown' hkp hob hsz
              go_wp2
              exact ⟨⟨v', k + 1, Ls ++ [(Z : Int)], rfl, by go_num, by omega, hO, hK2, by simp [hll], hWL, HD.out⟩, by simp [intOf]; omega⟩
            · skip
              have f3 : IntKind.u64.wrap (X : Int) = (X : Int) := by rw [IntKind.wrap_u64]; omega
              have hY0 : Y = 0 := by
                have h1 : zs.getD (o + k + 1) 0 = 0 := by simp [List.getD, List.getElem?_eq_none (by omega : zs.length ≤ o + k + 1)]
                have h2 := hYd
                rw [hyz (k + 1)] at h2
                rw [show o + (k + 1) = o + k + 1 from by omega, h1] at h2
                omega
              rw [hY0, Nat.zero_mul, Nat.add_zero] at hrw
              obtain ⟨V, hV⟩ : ∃ V, V = X := ⟨_, rfl⟩
              rw [← hV] at hrw e1 f3
              have hV64 : V < 18446744073709551616 := by omega
              obtain ⟨Q, hQ⟩ : ∃ Q, Q = V / 2 ^ s := ⟨_, rfl⟩
              have f7 : (V : Int) / 2 ^ s = (Q : Int) := by rw [hQ]; push_cast; rfl
              have hQ64 : Q < 18446744073709551616 := by rw [hQ]; exact Nat.lt_of_le_of_lt (Nat.div_le_self _ _) hV64
              have f8 := and32 Q hQ64
              rw [← hQ] at hrw
              obtain ⟨Z, hZ⟩ : ∃ Z, Z = Q % 4294967296 := ⟨_, rfl⟩
              rw [← hZ] at f8 hrw
              have f9 : IntKind.u32.wrap (Z : Int) = (Z : Int) := by rw [IntKind.wrap_u32]; omega
              have hWL : Wd (Ls ++ [(Z : Int)]) := hwl.append (Wd.one (by omega))
              have HD : Hid (∀ j, j < k + 1 → (Ls ++ [(Z : Int)]).getD j 0 = ((val ys / 2 ^ s / 4294967296 ^ j % 4294967296 : Nat) : Int)) := fun j hj => by
                by_cases e : j = k
                · subst e; rw [hrw]; simp [List.getD, hll]
                · rw [← hdg j (by omega)]; simp [List.getD, List.getElem?_append, show j < Ls.length from by omega]
              have hob := own_block hown
              have hown' : wr.ownsRow w.heap.size 100 1 v k (Ls.map (Value.int .u32)) := by rw [← hll]; exact hown
              have hsz := hkp.size
              have j0 : (0 : Int) ≤ (o : Int) + (k : Int) := by omega
              have j1 : (o : Int) + (k : Int) < (N : Int) := by omega
              have j2 : (o : Int) + (k : Int) < (S : Int) := by omega
              have j3 : ¬ ((o : Int) + (k : Int) + 1 < (S : Int)) := by omega
              have j4 : (0 : Int) ≤ (o : Int) + (k : Int) + 1 := by omega
              have j5 : True ∨ (o : Int) + (k : Int) + 1 < (N : Int) := by exact Or.inl trivial
              have hkb : k ≤ 1048576 := by omega
              clear HX2 hwz hzl hyl hwy hc hX hYd hgx hyz hrw hdg hwl hown hQ hZ hV64 hQ64 hV hY0
              go_wp2_with (first | (at_builtin; refine wpList_append_own _ rfl _ _ 41 rfl w.heap.size 100 i0 (.int .u32 0) 1 4 Tryz.underlying41 hi0 hi1 hi2 hi3 rfl (by decide) _ _ _ rfl (hown'.alloc _) ⟨wr.heap.size, 0, none⟩ 1 1 [.int .u32 (Z : Int)] rfl rfl ?c1lf ?c2lf ?c3lf ?c4lf ?c5lf ?_))
              try case c1lf =>
                intro j' u hj'
                match j', hj' with
                | 0, hj' => simp at hj'; subst hj'; simp [Addr.add]
              case c2lf => first | rfl | (intro u hu; simp at hu; subst hu; rfl)
              case c3lf => unfold maxLen; omega
              case c4lf => omega
              case c5lf => first | omega | (simp; omega)
              intro v' w1 hown2 hgrow _
              have hO : Own w1 w.heap.size v' (Ls ++ [(Z : Int)]) := by refine Own.push ?_; rw [hll]; exact hown2
              have hK2 : Kp w w1 := (hkp.alloc _).grown hgrow hob
              clear hown2 hgrow hown' hkp hob hsz
              go_wp2
              exact ⟨⟨v', k + 1, Ls ++ [(Z : Int)], rfl, by go_num, by omega, hO, hK2, by simp [hll], hWL, HD.out⟩, by simp [intOf]; omega⟩
          · have hok : o + k = S := by omega
            have hal := low_all Ls ys hwy s (by omega) (fun j hj => hdg j (by omega))
            obtain ⟨p', c', rfl, hA, _⟩ := hown.arr
            have hno := rnorm_ p' c' Ls wr hA (by omega)
            rw [nz_dig Ls hwl, hal] at hno
            obtain ⟨D, hD⟩ : ∃ D, D = Ls.length := ⟨_, rfl⟩
            rw [← hD] at hno ⊢
            have hsz := hkp.size
            have j2 : ¬ ((o : Int) + (k : Int) < (S : Int)) := by omega
            have hkb : k ≤ 1048576 := by omega
            clear HX2 hwz hzl hyl hwy hc hyz hs32 lS hown hll hwl hdg hal hA hD hok ck hk
            go_wp2_with fail
            refine hno.mono ?_
            rintro e w2 ⟨v2, rfl, hO2, hk2⟩
            clear hno
            go_wp2
            exact bodyPost_ret (v := .tuple #[v2, .bool RB]) (by simp [results, Tryz.results111, go_sem] <;> simp only [*]) rfl ⟨v2, rfl, hO2.mono hsz, hkp.trans hk2⟩
  · have t4 := t3 rfl
    have t5 : 0 < s := by omega
    go_wp2
    clear t2 t3 t4 e1 f4 f5 f7 i10 i11 t0 t1
    go_loop [8, 9] (fun lb i => ∃ (k : Nat) (B : Bool), i = .int .i64 k ∧ k ≤ o ∧ lb = .bool B ∧ (B = true ↔ X0 % 2 ^ s ≠ 0 ∨ val (zs.take k) ≠ 0)) (fun _ i => o - (intOf i).toNat)
    case atStart => exact ⟨0, true, rfl, Nat.zero_le _, (by first | rfl | (simp; omega)), by
      have h := HR.out.2.2
      simp at h
      simp [val, h]⟩
    case round =>
      obtain ⟨k, B, rfl, hk, rfl, hB⟩ := hrel
      obtain ⟨hwz, hzl, hyl, hwy, hc, hyz, hs32, lS⟩ := HX2.out
      by_cases ck : k < o
      · have e1 := hc k (by omega)
        have wz := hwz k
        have hts := val_take_succ zs k
        obtain ⟨X, hX⟩ : ∃ X : Nat, zs.getD k 0 = (X : Int) := ⟨(zs.getD k 0).toNat, by omega⟩
        rw [hX] at e1 hts
        rw [Int.toNat_natCast] at hts
        have hp : 0 < 4294967296 ^ k := Nat.pow_pos (by decide)
        have j0 : (0 : Int) ≤ (k : Int) := by omega
        have j1 : (k : Int) < (o : Int) := by omega
        have j2 : (k : Int) < (N : Int) := by omega
        cases B with
        | true =>
          have HB : Hid (X0 % 2 ^ s ≠ 0 ∨ val (zs.take (k + 1)) ≠ 0) := by
            show X0 % 2 ^ s ≠ 0 ∨ val (zs.take (k + 1)) ≠ 0
            rcases hB.1 rfl with q | q
            · exact Or.inl q
            · right; omega
          clear HX2 HR hwz hzl hyl hwy hc hyz hs32 lS hX hts hp wz hB
          go_wp2
          exact ⟨⟨k + 1, true, by go_num, by omega, rfl, ⟨fun _ => HB.out, fun _ => rfl⟩⟩, by simp [intOf]; omega⟩
        | false =>
          have hB2 : ¬ (X0 % 2 ^ s ≠ 0 ∨ val (zs.take k) ≠ 0) := fun h => by have := hB.2 h; cases this
          by_cases cx : X = 0
          · have HB : Hid (¬ (X0 % 2 ^ s ≠ 0 ∨ val (zs.take (k + 1)) ≠ 0)) := by
              show ¬ (X0 % 2 ^ s ≠ 0 ∨ val (zs.take (k + 1)) ≠ 0)
              rw [hts, cx, Nat.zero_mul, Nat.add_zero]; exact hB2
            have t4 : ((X : Int) != 0) = false := by simp [cx]
            clear HX2 HR hwz hzl hyl hwy hc hyz hs32 lS hX hts hp wz hB hB2 cx
            go_wp2
            exact ⟨⟨k + 1, false, by go_num, by omega, rfl, ⟨fun h => (by cases h), fun h => absurd h HB.out⟩⟩, by simp [intOf]; omega⟩
          · have HB : Hid (X0 % 2 ^ s ≠ 0 ∨ val (zs.take (k + 1)) ≠ 0) := by
              show X0 % 2 ^ s ≠ 0 ∨ val (zs.take (k + 1)) ≠ 0
              right
              have : 0 < X * 4294967296 ^ k := Nat.mul_pos (by omega) hp
              omega
            have t4 : ((X : Int) != 0) = true := by simp; omega
            clear HX2 HR hwz hzl hyl hwy hc hyz hs32 lS hX hts hp wz hB hB2 cx
            go_wp2
            exact ⟨⟨k + 1, true, by go_num, by omega, rfl, ⟨fun _ => HB.out, fun _ => rfl⟩⟩, by simp [intOf]; omega⟩
      · have hko : k = o := by omega
        subst hko
        have hRB : RB = B := by
          rw [HR.out.1]
          cases B with
          | true => exact decide_eq_true (HR.out.2.1.2 (hB.1 rfl))
          | false => exact decide_eq_false (fun h => by have := hB.2 (HR.out.2.1.1 h); cases this)
        subst hRB
        have j1 : ¬ ((k : Int) < (k : Int)) := by omega
        obtain ⟨i0, hi0, hi1, hi2, hi3⟩ := inf32p
        clear HR hB hwz hzl hyl hwy hc hyz hs32 lS hk ck
        go_wp2
        clear j1
        obtain ⟨o, ho⟩ : ∃ o, o = k := ⟨_, rfl⟩
        subst ho
        go_loopw [10, 11] (fun a ii wr => ∃ (v : Value) (k : Nat) (Ls : List Int), v = a ∧ ii = .int .i64 ((o : Int) + (k : Int)) ∧ o + k ≤ S ∧ Own wr w.heap.size v Ls ∧ Kp w wr ∧ Ls.length = k ∧ Wd Ls ∧ (∀ j, j < k → Ls.getD j 0 = ((val ys / 2 ^ s / 4294967296 ^ j % 4294967296 : Nat) : Int))) (fun _ i _ => S - (intOf i).toNat)
        case atStart => exact ⟨_, 0, [], rfl, by simp, by omega, Own.nil _ _, Kp.refl _, rfl, Wd.nil, fun j h => by omega⟩
        case round =>
          obtain ⟨v, k, Ls, rfl, rfl, hk, hown, hkp, hll, hwl, hdg⟩ := hrel
          obtain ⟨hwz, hzl, hyl, hwy, hc, hyz, hs32, lS⟩ := HX2.out
          by_cases ck : o + k < S
          · have e1 := kkeep hkp (hc (o + k) (by omega))
            have w1 := hwz (o + k)
            have w2 := hwz (o + k + 1)
            obtain ⟨X, hgx⟩ : ∃ X : Nat, zs.getD (o + k) 0 = (X : Int) := ⟨(zs.getD (o + k) 0).toNat, by omega⟩
            obtain ⟨Y, hgy1⟩ : ∃ Y : Nat, zs.getD (o + k + 1) 0 = (Y : Int) := ⟨(zs.getD (o + k + 1) 0).toNat, by omega⟩
            have hX32 : X < 4294967296 := by omega
            have hY32 : Y < 4294967296 := by omega
            have hX : ys.getD k 0 = (X : Int) := by rw [hyz k]; exact hgx
            have hYd : ys.getD (k + 1) 0 = (Y : Int) := by rw [hyz (k + 1)]; exact hgy1
            have hrw := right_word ys hwy k s X Y hs32 (by omega) hX hYd
            rw [hgx] at e1
            clear w1 w2
            by_cases cl : o + k + 1 < S
            · skip
              have f3 : IntKind.u64.wrap (X : Int) = (X : Int) := by rw [IntKind.wrap_u64]; omega
              have e2 := kkeep hkp (hc (o + k + 1) (by omega))
              rw [hgy1] at e2
              have f4 : IntKind.u64.wrap (Y : Int) = (Y : Int) := by rw [IntKind.wrap_u64]; omega
              have f5 : IntKind.u64.wrap ((Y : Int) * 4294967296) = ((Y * 4294967296 : Nat) : Int) := by rw [IntKind.wrap_u64]; omega
              have f6 := bits_or_u64_nat X (Y * 4294967296) (by omega) (by omega)
              have e3 : X ||| Y * 4294967296 = X + Y * 4294967296 := or_low X Y 32 (by omega)
              rw [e3] at f6
              obtain ⟨YB, hYB⟩ : ∃ YB, YB = Y * 4294967296 := ⟨_, rfl⟩
              rw [← hYB] at f5 f6 hrw
              obtain ⟨V, hV⟩ : ∃ V, V = X + YB := ⟨_, rfl⟩
              rw [← hV] at f6 hrw
              have hV64 : V < 18446744073709551616 := by omega
              obtain ⟨Q, hQ⟩ : ∃ Q, Q = V / 2 ^ s := ⟨_, rfl⟩
              have f7 : (V : Int) / 2 ^ s = (Q : Int) := by rw [hQ]; push_cast; rfl
              have hQ64 : Q < 18446744073709551616 := by rw [hQ]; exact Nat.lt_of_le_of_lt (Nat.div_le_self _ _) hV64
              have f8 := and32 Q hQ64
              rw [← hQ] at hrw
              obtain ⟨Z, hZ⟩ : ∃ Z, Z = Q % 4294967296 := ⟨_, rfl⟩
              rw [← hZ] at f8 hrw
              have f9 : IntKind.u32.wrap (Z : Int) = (Z : Int) := by rw [IntKind.wrap_u32]; omega
              have hWL : Wd (Ls ++ [(Z : Int)]) := hwl.append (Wd.one (by omega))
              have HD : Hid (∀ j, j < k + 1 → (Ls ++ [(Z : Int)]).getD j 0 = ((val ys / 2 ^ s / 4294967296 ^ j % 4294967296 : Nat) : Int)) := fun j hj => by
                by_cases e : j = k
                · subst e; rw [hrw]; simp [List.getD, hll]
                · rw [← hdg j (by omega)]; simp [List.getD, List.getElem?_append, show j < Ls.length from by omega]
              have hob := own_block hown
              have hown' : wr.ownsRow w.heap.size 100 1 v k (Ls.map (Value.int .u32)) := by rw [← hll]; exact hown
              have hsz := hkp.size
              have j0 : (0 : Int) ≤ (o : Int) + (k : Int) := by omega
              have j1 : (o : Int) + (k : Int) < (N : Int) := by omega
              have j2 : (o : Int) + (k : Int) < (S : Int) := by omega
              have j3 : ((o : Int) + (k : Int) + 1 < (S : Int)) := by omega
              have j4 : (0 : Int) ≤ (o : Int) + (k : Int) + 1 := by omega
              have j5 : (o : Int) + (k : Int) + 1 < (N : Int) := by omega
              have hkb : k ≤ 1048576 := by omega
              clear HX2 hwz hzl hyl hwy hc hX hYd hgx hyz hrw hdg hwl hown hQ hZ hV64 hQ64 hV hYB e3 hgy1
              go_wp2_with (first | (at_builtin; refine wpList_append_own _ rfl _ _ 41 rfl w.heap.size 100 i0 (.int .u32 0) 1 4 Tryz.underlying41 hi0 hi1 hi2 hi3 rfl (by decide) _ _ _ rfl (hown'.alloc _) ⟨wr.heap.size, 0, none⟩ 1 1 [.int .u32 (Z : Int)] rfl rfl ?c1mt ?c2mt ?c3mt ?c4mt ?c5mt ?_))
              try case c1mt =>
                intro j' u hj'
                match j', hj' with
                | 0, hj' => simp at hj'; subst hj'; simp [Addr.add]
              case c2mt => first | rfl | (intro u hu; simp at hu; subst hu; rfl)
              case c3mt => unfold maxLen; omega
              case c4mt => omega
              case c5mt => first | omega | (simp; omega)
              intro v' w1 hown2 hgrow _
              have hO : Own w1 w.heap.size v' (Ls ++ [(Z : Int)]) := by refine Own.push ?_; rw [hll]; exact hown2
              have hK2 : Kp w w1 := (hkp.alloc _).grown hgrow hob
              clear hown2 hgrow hown' hkp hob hsz
              go_wp2
              exact ⟨⟨v', k + 1, Ls ++ [(Z : Int)], rfl, by go_num, by omega, hO, hK2, by simp [hll], hWL, HD.out⟩, by simp [intOf]; omega⟩
            · skip
              have f3 : IntKind.u64.wrap (X : Int) = (X : Int) := by rw [IntKind.wrap_u64]; omega
              have hY0 : Y = 0 := by
                have h1 : zs.getD (o + k + 1) 0 = 0 := by simp [List.getD, List.getElem?_eq_none (by omega : zs.length ≤ o + k + 1)]
                have h2 := hYd
                rw [hyz (k + 1)] at h2
                rw [show o + (k + 1) = o + k + 1 from by omega, h1] at h2
                omega
              rw [hY0, Nat.zero_mul, Nat.add_zero] at hrw
              obtain ⟨V, hV⟩ : ∃ V, V = X := ⟨_, rfl⟩
              rw [← hV] at hrw e1 f3
              have hV64 : V < 18446744073709551616 := by omega
              obtain ⟨Q, hQ⟩ : ∃ Q, Q = V / 2 ^ s := ⟨_, rfl⟩
              have f7 : (V : Int) / 2 ^ s = (Q : Int) := by rw [hQ]; push_cast; rfl
              have hQ64 : Q < 18446744073709551616 := by rw [hQ]; exact Nat.lt_of_le_of_lt (Nat.div_le_self _ _) hV64
              have f8 := and32 Q hQ64
              rw [← hQ] at hrw
              obtain ⟨Z, hZ⟩ : ∃ Z, Z = Q % 4294967296 := ⟨_, rfl⟩
              rw [← hZ] at f8 hrw
              have f9 : IntKind.u32.wrap (Z : Int) = (Z : Int) := by rw [IntKind.wrap_u32]; omega
              have hWL : Wd (Ls ++ [(Z : Int)]) := hwl.append (Wd.one (by omega))
              have HD : Hid (∀ j, j < k + 1 → (Ls ++ [(Z : Int)]).getD j 0 = ((val ys / 2 ^ s / 4294967296 ^ j % 4294967296 : Nat) : Int)) := fun j hj => by
                by_cases e : j = k
                · subst e; rw [hrw]; simp [List.getD, hll]
                · rw [← hdg j (by omega)]; simp [List.getD, List.getElem?_append, show j < Ls.length from by omega]
              have hob := own_block hown
              have hown' : wr.ownsRow w.heap.size 100 1 v k (Ls.map (Value.int .u32)) := by rw [← hll]; exact hown
              have hsz := hkp.size
              have j0 : (0 : Int) ≤ (o : Int) + (k : Int) := by omega
              have j1 : (o : Int) + (k : Int) < (N : Int) := by omega
              have j2 : (o : Int) + (k : Int) < (S : Int) := by omega
              have j3 : ¬ ((o : Int) + (k : Int) + 1 < (S : Int)) := by omega
              have j4 : (0 : Int) ≤ (o : Int) + (k : Int) + 1 := by omega
              have j5 : True ∨ (o : Int) + (k : Int) + 1 < (N : Int) := by exact Or.inl trivial
              have hkb : k ≤ 1048576 := by omega
              clear HX2 hwz hzl hyl hwy hc hX hYd hgx hyz hrw hdg hwl hown hQ hZ hV64 hQ64 hV hY0
              go_wp2_with (first | (at_builtin; refine wpList_append_own _ rfl _ _ 41 rfl w.heap.size 100 i0 (.int .u32 0) 1 4 Tryz.underlying41 hi0 hi1 hi2 hi3 rfl (by decide) _ _ _ rfl (hown'.alloc _) ⟨wr.heap.size, 0, none⟩ 1 1 [.int .u32 (Z : Int)] rfl rfl ?c1lt ?c2lt ?c3lt ?c4lt ?c5lt ?_))
              try case c1lt =>
                intro j' u hj'
                match j', hj' with
                | 0, hj' => simp at hj'; subst hj'; simp [Addr.add]
              case c2lt => first | rfl | (intro u hu; simp at hu; subst hu; rfl)
              case c3lt => unfold maxLen; omega
              case c4lt => omega
              case c5lt => first | omega | (simp; omega)
              intro v' w1 hown2 hgrow _
              have hO : Own w1 w.heap.size v' (Ls ++ [(Z : Int)]) := by refine Own.push ?_; rw [hll]; exact hown2
              have hK2 : Kp w w1 := (hkp.alloc _).grown hgrow hob
              clear hown2 hgrow hown' hkp hob hsz
              go_wp2
              exact ⟨⟨v', k + 1, Ls ++ [(Z : Int)], rfl, by go_num, by omega, hO, hK2, by simp [hll], hWL, HD.out⟩, by simp [intOf]; omega⟩
          · have hok : o + k = S := by omega
            have hal := low_all Ls ys hwy s (by omega) (fun j hj => hdg j (by omega))
            obtain ⟨p', c', rfl, hA, _⟩ := hown.arr
            have hno := rnorm_ p' c' Ls wr hA (by omega)
            rw [nz_dig Ls hwl, hal] at hno
            obtain ⟨D, hD⟩ : ∃ D, D = Ls.length := ⟨_, rfl⟩
            rw [← hD] at hno ⊢
            have hsz := hkp.size
            have j2 : ¬ ((o : Int) + (k : Int) < (S : Int)) := by omega
            have hkb : k ≤ 1048576 := by omega
            clear HX2 hwz hzl hyl hwy hc hyz hs32 lS hown hll hwl hdg hal hA hD hok ck hk
            go_wp2_with fail
            refine hno.mono ?_
            rintro e w2 ⟨v2, rfl, hO2, hk2⟩
            clear hno
            go_wp2
            exact bodyPost_ret (v := .tuple #[v2, .bool RB]) (by simp [results, Tryz.results111, go_sem] <;> simp only [*]) rfl ⟨v2, rfl, hO2.mono hsz, hkp.trans hk2⟩
end Go.Proofs.YteedfmghgkmofaaGreatDoor
namespace Go.Proofs.YteedfmghgkmofaaGreatDoor
open Go.RowKit
set_option maxRecDepth 20000 in
set_option maxHeartbeats 3000000 in
theorem rplus_ (p q : Option Addr) (c d : Nat) (xs ys : List Int) (w : World) (hx : Arr w p xs) (hy : Arr w q ys) (hwx : Wd xs) (hwy : Wd ys) (lx : xs.length < 1099511627776) (ly : ys.length < 1099511627776) :
    Calls Tryz.prog 74 #[.slice p xs.length c, .slice q ys.length d] w fun e w' => ∃ v L, e = .returned v ∧ Own w' w.heap.size v (nz L) ∧ Wd L ∧ val L = val xs + val ys ∧ L.length ≤ 1099511627776 ∧ Kp w w' := by
  obtain ⟨N, hN⟩ : ∃ N, N = xs.length := ⟨_, rfl⟩
  obtain ⟨M, hM⟩ : ∃ M, M = ys.length := ⟨_, rfl⟩
  rw [← hN] at lx ⊢
  rw [← hM] at ly ⊢
  have HX : Hid (Arr w p xs) := hx
  have HY : Hid (Arr w q ys) := hy
  have HW : Hid (Wd xs ∧ Wd ys) := ⟨hwx, hwy⟩
  have HN : Hid (N = xs.length ∧ M = ys.length ∧ N < 1099511627776 ∧ M < 1099511627776) := ⟨hN, hM, lx, ly⟩
  obtain ⟨i0, hi0, hi1, hi2, hi3⟩ := inf32p
  clear hN hM hx hy hwx hwy lx ly
  go_enter Tryz.func74, Tryz.ntmps74
  go_wp2
  go_loopw [5, 6, 7] (fun a cc i wr => ∃ (v : Value) (k C : Nat) (L : List Int), v = a ∧ cc = .int .u64 C ∧ i = .int .i64 k ∧ Own wr w.heap.size v L ∧ Kp w wr ∧ L.length = k ∧ Wd L ∧ C ≤ 1 ∧ val L + C * 4294967296 ^ k = val (xs.take k) + val (ys.take k) ∧ k ≤ max N M) (fun _ _ i _ => max N M - (intOf i).toNat)
  case atStart => exact ⟨_, 0, 0, [], rfl, rfl, rfl, Own.nil _ _, Kp.refl _, rfl, Wd.nil, by omega, by simp [val], by omega⟩
  case round =>
    obtain ⟨v, k, C, L, rfl, rfl, rfl, hown, hkp, hL, hw, hC, hv, hk⟩ := hrel
    obtain ⟨hN, hM, lx, ly⟩ := HN.out
    by_cases ca : k < N
    · by_cases cb : k < M
      · skip
        obtain ⟨b, off, rfl, hc⟩ := HX.out.at (k := k) (by omega)
        have e1 := kkeep hkp (hc k (by omega))
        obtain ⟨b', off', rfl, hc'⟩ := HY.out.at (k := k) (by omega)
        have e2 := kkeep hkp (hc' k (by omega))
        have wx := HW.out.1 k
        have wy := HW.out.2 k
        obtain ⟨S, hS⟩ : ∃ S : Nat, S = C + (xs.getD k 0).toNat + (ys.getD k 0).toNat := ⟨_, rfl⟩
        have hst := plus_step L xs ys k C S hL hS hv
        obtain ⟨X, hX⟩ : ∃ X, X = xs.getD k 0 := ⟨_, rfl⟩
        obtain ⟨Y, hY⟩ : ∃ Y, Y = ys.getD k 0 := ⟨_, rfl⟩
        rw [← hX, ← hY] at hS
        rw [← hX] at wx e1
        rw [← hY] at wy e2
        have f1 : IntKind.u64.wrap X = X := by rw [IntKind.wrap_u64]; omega
        have f2 : IntKind.u64.wrap Y = Y := by rw [IntKind.wrap_u64]; omega
        have f3 : IntKind.u64.wrap ((C : Int) + X) = (C : Int) + X := by rw [IntKind.wrap_u64]; omega
        have f4 : IntKind.u64.wrap ((C : Int) + X + Y) = (S : Int) := by rw [IntKind.wrap_u64]; omega
        have f5 := and32 S (by omega)
        obtain ⟨Z, hZ⟩ : ∃ Z : Int, Z = ((S % 4294967296 : Nat) : Int) := ⟨_, rfl⟩
        rw [← hZ] at f5 hst
        have f6 : IntKind.u32.wrap Z = Z := by rw [IntKind.wrap_u32]; omega
        have f7 : (S : Int) / 4294967296 = ((S / 4294967296 : Nat) : Int) := by omega
        have hC' : S / 4294967296 ≤ 1 := by omega
        obtain ⟨C', hC2⟩ : ∃ C' : Nat, C' = S / 4294967296 := ⟨_, rfl⟩
        rw [← hC2] at f7 hst hC'
        have hWL : Wd (L ++ [Z]) := hw.append (Wd.one (by omega))
        have hob := own_block hown
        have hown' : wr.ownsRow w.heap.size 100 1 v k (L.map (Value.int .u32)) := by rw [← hL]; exact hown
        have hsz := hkp.size
        have hkb : k < 1099511627776 := by omega
        clear hc hc' HX HY HW HN hN hM hX hY hS hv hZ hC2 hown wx wy hw hC
        go_wp2_with (first | (at_builtin; refine wpList_append_own _ rfl _ _ 41 rfl w.heap.size 100 i0 (.int .u32 0) 1 4 Tryz.underlying41 hi0 hi1 hi2 hi3 rfl (by decide) _ _ _ rfl (hown'.alloc _) ⟨wr.heap.size, 0, none⟩ 1 1 [.int .u32 Z] rfl rfl ?c1 ?c2 ?c3 ?c4 ?c5 ?_))
        case c1 =>
          intro j' u hj'
          match j', hj' with
          | 0, hj' => simp at hj'; subst hj'; simp [Addr.add]
        case c2 => intro u hu; simp at hu; subst hu; rfl
        case c3 => unfold maxLen; omega
        case c4 => omega
        case c5 => simp; omega
        intro v' w1 hown2 hgrow _
        have hO : Own w1 w.heap.size v' (L ++ [Z]) := by refine Own.push ?_; rw [hL]; exact hown2
        have hK2 : Kp w w1 := (hkp.alloc _).grown hgrow hob
        clear hown2 hgrow hown' hkp hob hsz
        go_wp2
        exact ⟨⟨_, k + 1, C', _, rfl, by go_num, by go_num, hO, hK2, by simp [hL], hWL, hC', hst, by omega⟩, by simp [intOf]; omega⟩
      · skip
        obtain ⟨b, off, rfl, hc⟩ := HX.out.at (k := k) (by omega)
        have e1 := kkeep hkp (hc k (by omega))
        have wx := HW.out.1 k
        have wy := HW.out.2 k
        have hy0 : ys.getD k 0 = 0 := getD_out ys k (by omega)
        obtain ⟨S, hS⟩ : ∃ S : Nat, S = C + (xs.getD k 0).toNat + (ys.getD k 0).toNat := ⟨_, rfl⟩
        have hst := plus_step L xs ys k C S hL hS hv
        obtain ⟨X, hX⟩ : ∃ X, X = xs.getD k 0 := ⟨_, rfl⟩
        obtain ⟨Y, hY⟩ : ∃ Y, Y = ys.getD k 0 := ⟨_, rfl⟩
        rw [← hX, ← hY] at hS
        rw [← hX] at wx e1
        rw [← hY] at wy hy0
        have f1 : IntKind.u64.wrap X = X := by rw [IntKind.wrap_u64]; omega
        have f2 : IntKind.u64.wrap Y = Y := by rw [IntKind.wrap_u64]; omega
        have f3 : IntKind.u64.wrap ((C : Int) + X) = (S : Int) := by rw [IntKind.wrap_u64]; omega
        have f5 := and32 S (by omega)
        obtain ⟨Z, hZ⟩ : ∃ Z : Int, Z = ((S % 4294967296 : Nat) : Int) := ⟨_, rfl⟩
        rw [← hZ] at f5 hst
        have f6 : IntKind.u32.wrap Z = Z := by rw [IntKind.wrap_u32]; omega
        have f7 : (S : Int) / 4294967296 = ((S / 4294967296 : Nat) : Int) := by omega
        have hC' : S / 4294967296 ≤ 1 := by omega
        obtain ⟨C', hC2⟩ : ∃ C' : Nat, C' = S / 4294967296 := ⟨_, rfl⟩
        rw [← hC2] at f7 hst hC'
        have hWL : Wd (L ++ [Z]) := hw.append (Wd.one (by omega))
        have hob := own_block hown
        have hown' : wr.ownsRow w.heap.size 100 1 v k (L.map (Value.int .u32)) := by rw [← hL]; exact hown
        have hsz := hkp.size
        have hkb : k < 1099511627776 := by omega
        clear hc HX HY HW HN hN hM hX hY hS hv hZ hC2 hown wx wy hw hC hy0
        go_wp2_with (first | (at_builtin; refine wpList_append_own _ rfl _ _ 41 rfl w.heap.size 100 i0 (.int .u32 0) 1 4 Tryz.underlying41 hi0 hi1 hi2 hi3 rfl (by decide) _ _ _ rfl (hown'.alloc _) ⟨wr.heap.size, 0, none⟩ 1 1 [.int .u32 Z] rfl rfl ?c1 ?c2 ?c3 ?c4 ?c5 ?_))
        case c1 =>
          intro j' u hj'
          match j', hj' with
          | 0, hj' => simp at hj'; subst hj'; simp [Addr.add]
        case c2 => intro u hu; simp at hu; subst hu; rfl
        case c3 => unfold maxLen; omega
        case c4 => omega
        case c5 => simp; omega
        intro v' w1 hown2 hgrow _
        have hO : Own w1 w.heap.size v' (L ++ [Z]) := by refine Own.push ?_; rw [hL]; exact hown2
        have hK2 : Kp w w1 := (hkp.alloc _).grown hgrow hob
        clear hown2 hgrow hown' hkp hob hsz
        go_wp2
        exact ⟨⟨_, k + 1, C', _, rfl, by go_num, by go_num, hO, hK2, by simp [hL], hWL, hC', hst, by omega⟩, by simp [intOf]; omega⟩
    · by_cases cb : k < M
      · skip
        obtain ⟨b', off', rfl, hc'⟩ := HY.out.at (k := k) (by omega)
        have e2 := kkeep hkp (hc' k (by omega))
        have wx := HW.out.1 k
        have wy := HW.out.2 k
        have hx0 : xs.getD k 0 = 0 := getD_out xs k (by omega)
        obtain ⟨S, hS⟩ : ∃ S : Nat, S = C + (xs.getD k 0).toNat + (ys.getD k 0).toNat := ⟨_, rfl⟩
        have hst := plus_step L xs ys k C S hL hS hv
        obtain ⟨X, hX⟩ : ∃ X, X = xs.getD k 0 := ⟨_, rfl⟩
        obtain ⟨Y, hY⟩ : ∃ Y, Y = ys.getD k 0 := ⟨_, rfl⟩
        rw [← hX, ← hY] at hS
        rw [← hX] at wx hx0
        rw [← hY] at wy e2
        have f1 : IntKind.u64.wrap X = X := by rw [IntKind.wrap_u64]; omega
        have f2 : IntKind.u64.wrap Y = Y := by rw [IntKind.wrap_u64]; omega
        have f3 : IntKind.u64.wrap ((C : Int) + Y) = (S : Int) := by rw [IntKind.wrap_u64]; omega
        have f5 := and32 S (by omega)
        obtain ⟨Z, hZ⟩ : ∃ Z : Int, Z = ((S % 4294967296 : Nat) : Int) := ⟨_, rfl⟩
        rw [← hZ] at f5 hst
        have f6 : IntKind.u32.wrap Z = Z := by rw [IntKind.wrap_u32]; omega
        have f7 : (S : Int) / 4294967296 = ((S / 4294967296 : Nat) : Int) := by omega
        have hC' : S / 4294967296 ≤ 1 := by omega
        obtain ⟨C', hC2⟩ : ∃ C' : Nat, C' = S / 4294967296 := ⟨_, rfl⟩
        rw [← hC2] at f7 hst hC'
        have hWL : Wd (L ++ [Z]) := hw.append (Wd.one (by omega))
        have hob := own_block hown
        have hown' : wr.ownsRow w.heap.size 100 1 v k (L.map (Value.int .u32)) := by rw [← hL]; exact hown
        have hsz := hkp.size
        have hkb : k < 1099511627776 := by omega
        clear hc' HX HY HW HN hN hM hX hY hS hv hZ hC2 hown wx wy hw hC hx0
        go_wp2_with (first | (at_builtin; refine wpList_append_own _ rfl _ _ 41 rfl w.heap.size 100 i0 (.int .u32 0) 1 4 Tryz.underlying41 hi0 hi1 hi2 hi3 rfl (by decide) _ _ _ rfl (hown'.alloc _) ⟨wr.heap.size, 0, none⟩ 1 1 [.int .u32 Z] rfl rfl ?c1 ?c2 ?c3 ?c4 ?c5 ?_))
        case c1 =>
          intro j' u hj'
          match j', hj' with
          | 0, hj' => simp at hj'; subst hj'; simp [Addr.add]
        case c2 => intro u hu; simp at hu; subst hu; rfl
        case c3 => unfold maxLen; omega
        case c4 => omega
        case c5 => simp; omega
        intro v' w1 hown2 hgrow _
        have hO : Own w1 w.heap.size v' (L ++ [Z]) := by refine Own.push ?_; rw [hL]; exact hown2
        have hK2 : Kp w w1 := (hkp.alloc _).grown hgrow hob
        clear hown2 hgrow hown' hkp hob hsz
        go_wp2
        exact ⟨⟨_, k + 1, C', _, rfl, by go_num, by go_num, hO, hK2, by simp [hL], hWL, hC', hst, by omega⟩, by simp [intOf]; omega⟩
      · have hv2 : val (L ++ [(C : Int)]) = val xs + val ys := by
          rw [List.take_of_length_le (by omega), List.take_of_length_le (by omega)] at hv
          rw [val_append, hL]
          simp only [val, Int.toNat_natCast, Nat.mul_zero, Nat.add_zero]
          rw [Nat.mul_comm]; exact hv
        have hWL : Wd (L ++ [(C : Int)]) := hw.append (Wd.one (by omega))
        have hob := own_block hown
        have hown' : wr.ownsRow w.heap.size 100 1 v k (L.map (Value.int .u32)) := by rw [← hL]; exact hown
        have hsz := hkp.size
        have f6 : IntKind.u32.wrap (C : Int) = (C : Int) := by rw [IntKind.wrap_u32]; omega
        have hkb : k < 1099511627776 := by omega
        clear HX HY HW HN hN hM hv hown hw hC
        go_wp2_with (first | (at_builtin; refine wpList_append_own _ rfl _ _ 41 rfl w.heap.size 100 i0 (.int .u32 0) 1 4 Tryz.underlying41 hi0 hi1 hi2 hi3 rfl (by decide) _ _ _ rfl (hown'.alloc _) ⟨wr.heap.size, 0, none⟩ 1 1 [.int .u32 (C : Int)] rfl rfl ?c1 ?c2 ?c3 ?c4 ?c5 ?_))
        case c1 =>
          intro j' u hj'
          match j', hj' with
          | 0, hj' => simp at hj'; subst hj'; simp [Addr.add]
        case c2 => intro u hu; simp at hu; subst hu; rfl
        case c3 => unfold maxLen; omega
        case c4 => omega
        case c5 => simp; omega
        intro v' w1 hown2 hgrow _
        have hO : Own w1 w.heap.size v' (L ++ [(C : Int)]) := by refine Own.push ?_; rw [hL]; exact hown2
        have hK2 : Kp w w1 := (hkp.alloc _).grown hgrow hob
        have hll : (L ++ [(C : Int)]).length ≤ 1099511627776 := by simp [hL]; omega
        clear hown2 hgrow hown' hkp hob hsz
        obtain ⟨p', c', rfl, hA, _⟩ := hO.arr
        have hno := rnorm_ p' c' (L ++ [(C : Int)]) w1 hA hll
        obtain ⟨LL, hLL⟩ : ∃ LL, LL = L ++ [(C : Int)] := ⟨_, rfl⟩
        rw [← hLL] at hno hv2 hWL hA hll
        have hl2 : (L ++ [(C : Int)]).length = LL.length := by rw [hLL]
        clear hO hLL
        go_wp2_with fail
        refine hno.mono ?_
        rintro e w2 ⟨v2, rfl, hO2, hk2⟩
        clear hno hA f6
        go_wp2
        exact bodyPost_ret (v := v2) (by simp [results, Tryz.results74, go_sem] <;> simp only [*]) rfl ⟨v2, LL, rfl, hO2.mono hK2.size, hWL, hv2, hll, hK2.trans hk2⟩
end Go.Proofs.YteedfmghgkmofaaGreatDoor
