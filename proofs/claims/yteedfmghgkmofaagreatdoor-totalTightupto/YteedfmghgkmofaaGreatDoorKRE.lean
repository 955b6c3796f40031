import Derived.Test.YteedfmghgkmofaaGreatDoorKU4x
namespace Go.Proofs.YteedfmghgkmofaaGreatDoor
open Go.RowKit
set_option maxRecDepth 20000 in
theorem sl32t (b off h N c : Nat) (hc : h ≤ c) (w : World) : (Instr.slice 41 (.slice (some ⟨b, off, none⟩) N c) none (some (.int .i64 (h : Int))) none).run Tryz.prog w = .ok (.slice (some ⟨b, off, none⟩) h c) w := by
  rw [run_slice_h w 41 (some ⟨b, off, none⟩) N c Tryz.underlying41 .i64 (h : Int) (by omega) (by omega)]
  have e : (sizeOf (Tryz.prog.elem 41)).run Tryz.prog w = .ok 1 w := by kernel_rfl
  rw [e]
  simp [Result.andThen, sliced, Addr.add_lit]
set_option maxRecDepth 20000 in
set_option maxHeartbeats 1000000 in
theorem remnant_ (p : Option Addr) (c m : Nat) (xs : List Int) (w : World) (hx : Arr w p xs) (hwx : Wd xs) (lx : xs.length ≤ 1048576) (hc : xs.length ≤ c) (ho : m / 32 < xs.length) :
    Calls Tryz.prog 150 #[.slice p xs.length c, .int .i64 (m : Int)] w fun e w' => ∃ v, e = .returned v ∧ Own w' w.heap.size v (dig (val xs % 2 ^ m)) ∧ Kp w w' := by
  obtain ⟨o, ho9⟩ : ∃ o, o = m / 32 := ⟨_, rfl⟩
  obtain ⟨s, hs⟩ : ∃ s, s = m % 32 := ⟨_, rfl⟩
  rw [← ho9] at ho
  have hms : m = 32 * o + s := by omega
  have hs32 : s < 32 := by omega
  have f1 : (m : Int) / 32 = (o : Int) := by omega
  have f2 : (m : Int) % 32 = (s : Int) := by omega
  obtain ⟨b, off, rfl, hcell⟩ := hx.at (k := o) ho
  have hfr := fresh_ (some ⟨b, off, none⟩) c (xs.take (o + 1)) w (hx.take _) (by rw [List.length_take]; omega)
  have hlt : (xs.take (o + 1)).length = o + 1 := by rw [List.length_take]; omega
  rw [hlt] at hfr
  have wx := hwx o
  obtain ⟨X, hX⟩ : ∃ X : Nat, (X : Int) = xs.getD o 0 := ⟨_, Int.toNat_of_nonneg wx.1⟩
  have hrv := rem_val xs hwx o s X hs32 ho (by rw [← hX]; rfl)
  rw [← hms] at hrv
  have hsl := sl32t b off (o + 1) xs.length c (by omega)
  rw [show ((o + 1 : Nat) : Int) = (o : Int) + 1 from by omega] at hsl
  obtain ⟨P, hP⟩ : ∃ P, P = 2 ^ s := ⟨_, rfl⟩
  have hP0 : 0 < P := by rw [hP]; exact Nat.pow_pos (by omega)
  have hP32 : P < 4294967296 := by
    rw [hP]
    have : (2 : Nat) ^ s < 2 ^ 32 := Nat.pow_lt_pow_right (by decide) hs32
    exact this
  obtain ⟨P1, hP1⟩ : ∃ P1, P1 = P - 1 := ⟨_, rfl⟩
  have hPc : ((2 : Int) ^ s) = (P : Int) := by rw [hP]; norm_cast
  have g1 : IntKind.u32.wrap ((2 : Int) ^ s) = (P : Int) := by rw [hPc, IntKind.wrap_u32]; omega
  have g1b : IntKind.u32.wrap (1 * (2 : Int) ^ s) = (P : Int) := by rw [Int.one_mul]; exact g1
  have g2 : IntKind.u32.wrap ((P : Int) - 1) = (P1 : Int) := by rw [IntKind.wrap_u32]; omega
  obtain ⟨Z, hZ⟩ : ∃ Z, Z = X % 2 ^ s := ⟨_, rfl⟩
  have hZ32 : Z < 4294967296 := by have := Nat.mod_le X (2 ^ s); omega
  have g3 : bits BinOp.and IntKind.u32 (X : Int) (P1 : Int) = (Z : Int) := by
    rw [u32_and_nat X P1 (by omega) (by omega), hP1, hP, Nat.and_two_pow_sub_one_eq_mod, ← hZ]
  rw [← hZ] at hrv
  obtain ⟨ys, hys⟩ : ∃ ys, ys = xs.take (o + 1) := ⟨_, rfl⟩
  rw [← hys] at hfr hlt hrv
  have hwy : Wd ys := by rw [hys]; exact hwx.take _
  have hyX : ys.getD o 0 = (X : Int) := by rw [hys, hX]; simp [List.getD]
  obtain ⟨N, hN⟩ : ∃ N, N = xs.length := ⟨_, rfl⟩
  rw [← hN] at hsl
  rw [← hN]
  have lo : o ≤ 1048576 := by omega
  have i0 : (0 : Int) ≤ (o : Int) := by omega
  have i1 : (o : Int) < (o : Int) + 1 := by omega
  have i2 : (0 : Int) ≤ (s : Int) := by omega
  have HY : Hid (ys.length = o + 1 ∧ Wd ys ∧ ys.getD o 0 = (X : Int) ∧ val (ys.set o (Z : Int)) = val xs % 2 ^ m ∧ Z < 4294967296) := ⟨hlt, hwy, hyX, hrv, hZ32⟩
  clear hx hwx lx hc ho ho9 hs hms hs32 hcell hlt wx hX hrv hP hP0 hP32 hP1 hPc hZ hZ32 hys hwy hyX hN
  go_enter Tryz.func150, Tryz.ntmps150
  go_wp2_with fail
  refine hfr.mono ?_
  rintro e w1 ⟨g, rfl, hg, hR, hk⟩
  obtain ⟨hyl, hwy, hyX, hyv, hZ32⟩ := HY.out
  have e1 := World.rowIs.cell hR (i := o) (by omega)
  rw [hyX] at e1
  have e4 := World.rowIs.frozen hR o
  have hR2 : Rw (w1.setCell ⟨g, o, none⟩ (.int .u32 (Z : Int))).drew g (o + 1) (ys.set o (Z : Int)) := hR.set o (Z : Int) (by omega)
  have hK2 : Kp w (w1.setCell ⟨g, o, none⟩ (.int .u32 (Z : Int))).drew := (hk.setCell hg _).drew
  have hl2 : (ys.set o (Z : Int)).length = o + 1 := by rw [List.length_set]; exact hyl
  have hw2 : Wd (ys.set o (Z : Int)) := hwy.set o Z (by omega)
  have htr := trim_ (some ⟨g, 0, none⟩) (o + 1) (ys.set o (Z : Int)) _ (hR2.all hl2) (by omega) (by omega)
  have hO : Own (w1.setCell ⟨g, o, none⟩ (.int .u32 (Z : Int))).drew w.heap.size (.slice (some ⟨g, 0, none⟩) (tl (ys.set o (Z : Int))) (o + 1)) (dig (val xs % 2 ^ m)) := by
    have h1 := Own.of_row (base := w.heap.size) (k := tl (ys.set o (Z : Int))) hR2 hg (by have := tl_le (ys.set o (Z : Int)); omega) hl2 (by unfold maxLen; omega)
    have h2 : (ys.set o (Z : Int)).take (tl (ys.set o (Z : Int))) = dig (val xs % 2 ^ m) := by rw [← hyv, ← nz_dig _ hw2]; rfl
    rw [h2] at h1
    exact h1
  rw [hl2] at htr
  obtain ⟨T, hT⟩ : ∃ T, T = tl (ys.set o (Z : Int)) := ⟨_, rfl⟩
  rw [← hT] at htr hO
  have HZ : Hid (Own (w1.setCell ⟨g, o, none⟩ (.int .u32 (Z : Int))).drew w.heap.size (.slice (some ⟨g, 0, none⟩) T (o + 1)) (dig (val xs % 2 ^ m)) ∧ Kp w (w1.setCell ⟨g, o, none⟩ (.int .u32 (Z : Int))).drew) := ⟨hO, hK2⟩
  clear hfr HY hyl hwy hyX hyv hZ32 hR2 hK2 hl2 hw2 hO hT hR hk hg hsl
  go_wp2
  first | (go_region_with (fail)) | fail
  all_goals
    clear e1 e4 g1 g1b g2 g3
    go_wp2_with (first | (go_at_call 89; refine htr.mono ?_; rintro e w' ⟨rfl, hw'⟩; obtain rfl := hw'.symm))
    exact bodyPost_ret (v := .slice (some ⟨g, 0, none⟩) T (o + 1)) (by simp [results, Tryz.results150, go_sem]) rfl ⟨_, rfl, HZ.out.1, HZ.out.2⟩
set_option maxRecDepth 20000 in
set_option maxHeartbeats 1000000 in
theorem raised0_ (p : Option Addr) (c : Nat) (m : Int) (w : World) :
    Calls Tryz.prog 125 #[.slice p 0 c, .int .i64 m] w fun e w' => ∃ v, e = .returned v ∧ Own w' w.heap.size v [] ∧ Kp w w' := by
  go_enter Tryz.func125, Tryz.ntmps125
  go_wp2
  exact bodyPost_ret (v := .slice none 0 0) (by simp [results, Tryz.results125, go_sem]) rfl ⟨_, rfl, Own.nil _ _, Kp.refl _⟩
set_option maxRecDepth 20000 in
theorem LsN.len {w : World} {v : Value} {L : List Int} (h : LsN w v L) : ∃ p c, v = .slice p L.length c ∧ Arr w p L ∧ L.length ≤ c := h
set_option maxRecDepth 20000 in
theorem raisedB (v : Value) (a m : Nat) (w : World) (h : LsN w v (dig a)) (l : (dig a).length ≤ 1048576) (hm : m ≤ 16777216) :
    Calls Tryz.prog 125 #[v, .int .i64 (m : Int)] w fun e w' => ∃ v', e = .returned v' ∧ Own w' w.heap.size v' (dig (a * 2 ^ m)) ∧ Kp w w' := by
  obtain ⟨p, c, rfl, hA, hc⟩ := h
  by_cases e0 : (dig a).length = 0
  · have ha := (dig_len_zero a).1 e0
    have h := raised0_ p c (m : Int) w
    rw [e0, ha, Nat.zero_mul, dig_zero]
    exact h
  have h := raised_ p c m (dig a) w hA (Wd_dig a) (by omega) l hm
  rw [val_dig] at h
  exact h
set_option maxRecDepth 20000 in
theorem loweredB (v : Value) (a m : Nat) (w : World) (h : LsN w v (dig a)) (l : (dig a).length ≤ 1048576) (hm9 : (m : Int) < 9223372036854775808) :
    Calls Tryz.prog 138 #[v, .int .i64 (m : Int)] w fun e w' => ∃ v', e = .returned v' ∧ Own w' w.heap.size v' (dig (a / 2 ^ m)) ∧ Kp w w' := by
  obtain ⟨p, c, rfl, hA, hc⟩ := h
  have h := lowered_ p c m (dig a) w hA (Wd_dig a) l hc hm9
  rw [val_dig] at h
  exact h
set_option maxRecDepth 20000 in
theorem remB (v : Value) (a m : Nat) (w : World) (h : LsN w v (dig a)) (l : (dig a).length ≤ 1048576) (ho : m / 32 < (dig a).length) :
    Calls Tryz.prog 150 #[v, .int .i64 (m : Int)] w fun e w' => ∃ v', e = .returned v' ∧ Own w' w.heap.size v' (dig (a % 2 ^ m)) ∧ Kp w w' := by
  obtain ⟨p, c, rfl, hA, hc⟩ := h
  have h := remnant_ p c m (dig a) w hA (Wd_dig a) l hc ho
  rw [val_dig] at h
  exact h
set_option maxRecDepth 20000 in
theorem sumB (v1 v2 : Value) (a b : Nat) (w : World) (h1 : LsN w v1 (dig a)) (h2 : LsN w v2 (dig b)) (l1 : (dig a).length ≤ 1048576) (l2 : (dig b).length ≤ 1048576) :
    Calls Tryz.prog 128 #[v1, v2] w fun e w' => ∃ v', e = .returned v' ∧ Own w' w.heap.size v' (dig (a + b)) ∧ Kp w w' := by
  obtain ⟨p, c, rfl, hA, hc⟩ := h1
  obtain ⟨q, d, rfl, hB, hd⟩ := h2
  have h := sum_any p q c d (dig a) (dig b) w hA hB (Wd_dig a) (Wd_dig b) (by omega) (by omega)
  rw [val_dig, val_dig] at h
  exact h
set_option maxRecDepth 20000 in
theorem prodB (v1 v2 : Value) (a b : Nat) (w : World) (h1 : LsN w v1 (dig a)) (h2 : LsN w v2 (dig b)) (l1 : (dig a).length ≤ 1048576) (l2 : (dig b).length ≤ 1048576) :
    Calls Tryz.prog 151 #[v1, v2] w fun e w' => ∃ v', e = .returned v' ∧ Own w' w.heap.size v' (dig (a * b)) ∧ Kp w w' := by
  obtain ⟨p, c, rfl, hA, hc⟩ := h1
  obtain ⟨q, d, rfl, hB, hd⟩ := h2
  have h := product_ p q c d (dig a) (dig b) w hA hB (Wd_dig a) (Wd_dig b) (by omega) (by omega)
  rw [val_dig, val_dig] at h
  exact h
set_option maxRecDepth 20000 in
theorem diffB (v1 v2 : Value) (a b : Nat) (w : World) (h1 : LsN w v1 (dig a)) (h2 : LsN w v2 (dig b)) (l1 : (dig a).length ≤ 1048576) (_l2 : (dig b).length ≤ 1048576) (hle : b ≤ a) :
    Calls Tryz.prog 152 #[v1, v2] w fun e w' => ∃ v', e = .returned v' ∧ Own w' w.heap.size v' (dig (a - b)) ∧ Kp w w' := by
  obtain ⟨p, c, rfl, hA, hc⟩ := h1
  obtain ⟨q, d, rfl, hB, hd⟩ := h2
  have h := diff_ p q c d (dig a) (dig b) w hA hB (Wd_dig a) (Wd_dig b) (by omega) (len32_mono hle) (by rw [val_dig, val_dig]; exact hle)
  rw [val_dig, val_dig] at h
  exact h
set_option maxRecDepth 20000 in
theorem cmpB (v1 v2 : Value) (a b : Nat) (w : World) (h1 : LsN w v1 (dig a)) (h2 : LsN w v2 (dig b)) (l1 : (dig a).length ≤ 1048576) (l2 : (dig b).length ≤ 1048576) :
    Calls Tryz.prog 147 #[v1, v2] w fun e w' => e = .returned (.int .i64 (cmpN a b)) ∧ Kp w w' := by
  obtain ⟨p, c, rfl, hA, hc⟩ := h1
  obtain ⟨q, d, rfl, hB, hd⟩ := h2
  have h := ncmp_ p q c d (dig a) (dig b) w hA hB (Wd_dig a) (Wd_dig b) (by omega) (by omega) hc hd
  rw [val_dig, val_dig] at h
  exact h
set_option maxRecDepth 20000 in
theorem quoB (v1 v2 : Value) (a b : Nat) (w : World) (h1 : LsN w v1 (dig a)) (h2 : LsN w v2 (dig b)) (l1 : (dig a).length ≤ 1048576) (l2 : (dig b).length ≤ 1048576) (h0 : 0 < b) :
    Calls Tryz.prog 145 #[v1, v2] w fun e w' => ∃ q r, e = .returned (.tuple #[q, r]) ∧ LsN w' q (dig (a / b)) ∧ LsN w' r (dig (a % b)) ∧ Kp w w' := by
  obtain ⟨p, c, rfl, hA, hc⟩ := h1
  obtain ⟨q, d, rfl, hB, hd⟩ := h2
  have h := quotient_ p q c d (dig a) (dig b) w hA hB (by rw [val_dig]) (by rw [val_dig]) l1 l2 hc hd (by rw [val_dig]; exact h0)
  rw [val_dig, val_dig] at h
  exact h.mono fun e w' ⟨v, he, ⟨p1, c1, p2, c2, e2, o1, o2, _⟩, hk⟩ => ⟨_, _, by rw [he, e2], o1.lsN, o2.lsN, hk⟩
end Go.Proofs.YteedfmghgkmofaaGreatDoor
