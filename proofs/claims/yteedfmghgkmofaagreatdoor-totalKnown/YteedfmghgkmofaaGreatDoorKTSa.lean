import Derived.Test.YteedfmghgkmofaaGreatDoorKTOw
import Derived.Test.YteedfmghgkmofaaGreatDoorKVR
namespace Go.Proofs.YteedfmghgkmofaaGreatDoor
open Go.RowKit

def rtR (A : Nat) : Nat := 2 * rtN (A * 2 ^ 128) + (if A * 2 ^ 128 = rtN (A * 2 ^ 128) * rtN (A * 2 ^ 128) then 0 else 1)
theorem rtN_le (a : Nat) : rtN a ≤ a := by
  have h := (rtN_is a).1
  have : rtN a * 1 ≤ rtN a * rtN a ∨ rtN a = 0 := by
    rcases Nat.eq_zero_or_pos (rtN a) with h | h
    · exact Or.inr h
    · exact Or.inl (Nat.mul_le_mul (Nat.le_refl _) h)
  omega
theorem shl_small (a n : Nat) (h : blen a ≤ 8000) (hn : n ≤ 200) : shlN a (n : Int) = (dig (a * 2 ^ n), 0) := by
  have hl : len32 a ≤ 250 := dlen a 250 (by omega)
  unfold shlN
  rw [if_neg (by omega), if_neg (by omega)]
  by_cases z : a = 0
  · rw [if_pos z, z, Nat.zero_mul, dig_zero]
  · rw [if_neg z, if_neg (by omega)]; rfl
theorem blen_dbl (x Z : Nat) (h : blen x ≤ Z) : blen (2 * x) ≤ Z + 1 ∧ blen (2 * x + 1) ≤ Z + 1 := by
  rw [blen_le_iff] at h
  rw [blen_le_iff, blen_le_iff, Nat.pow_succ]
  omega
set_option maxRecDepth 20000 in
set_option maxHeartbeats 1000000 in
theorem tsqrt_ (d : Int) (hd1 : -9223372036854775808 ≤ d) (hd2 : d < 9223372036854775808) (p : Option Addr) (c : Nat) (xs : List Int) (A : Nat) (w : World) (hx : Arr w p xs) (hw : Wd xs) (hl : xs.length = 134) (hc : xs.length ≤ c) (hv : val xs = A) (hT : Tab w) (hQ : Fq.Tab w) : Calls Tryz.prog 52 #[.int .i64 d, .slice p xs.length c] w fun e w' => e = .returned (.float .f64 (ofW d false (rtR A) (-1139))) ∧ Kp w w' := by
  have hA : blen A ≤ 4288 := by
    have h := val_lt xs hw
    rw [hl, show (4294967296 : Nat) = 2 ^ 32 from rfl, ← Nat.pow_mul, hv] at h
    exact (blen_le_iff A (32 * 134)).2 h
  have hB : blen (A * 2 ^ 128) ≤ 4416 := by
    by_cases z : A = 0
    · rw [z, Nat.zero_mul, blen_zero]; omega
    · rw [blen_mul A 128 z]; omega
  have h1 := nshl_ p c xs w 128 hx hw (by omega) hc
  rw [hv, show (128 : Int) = ((128 : Nat) : Int) from rfl, shl_small A 128 (by omega) (by decide)] at h1
  obtain ⟨B, hBB⟩ : ∃ B, B = A * 2 ^ 128 := ⟨_, rfl⟩
  have hr : rtR A = 2 * rtN B + (if B = rtN B * rtN B then 0 else 1) := by unfold rtR; rw [← hBB]
  rw [hr]
  rw [← hBB] at h1 hB
  have hrl : blen (rtN B) ≤ 4416 := by
    rw [blen_le_iff] at hB ⊢
    exact Nat.lt_of_le_of_lt (rtN_le B) hB
  have hB32 : (dig B).length ≤ 200 := dlen B 200 (by omega)
  have hr32 : (dig (rtN B)).length ≤ 200 := dlen (rtN B) 200 (by omega)
  have h2 := fun (W : World) (q : Option Addr) (e : Nat) (ha : Arr W q (dig B)) (hb : (dig B).length ≤ e) => nroot_ q e (dig B) W ha (Wd_dig B) (by omega) hb
  have hrt : rootN B = (dig (rtN B), decide (B = rtN B * rtN B), 0) := by
    unfold rootN
    rw [if_neg (by have h : len32 B ≤ 200 := hB32; omega)]
  rw [val_dig, hrt] at h2
  have h3 := fun (W : World) (q : Option Addr) (e : Nat) (ha : Arr W q (dig (rtN B))) (hb : (dig (rtN B)).length ≤ e) => nshl_ q e (dig (rtN B)) W 1 ha (Wd_dig _) (by omega) hb
  rw [val_dig, show (1 : Int) = ((1 : Nat) : Int) from rfl, shl_small (rtN B) 1 (by omega) (by decide), Nat.pow_one, Nat.mul_comm (rtN B) 2] at h3
  obtain ⟨hR2, hR3⟩ := blen_dbl (rtN B) 4416 hrl
  have hl2 : (dig (2 * rtN B)).length ≤ 200 := dlen _ 200 (by omega)
  have hl3 : (dig (2 * rtN B + 1)).length ≤ 200 := dlen _ 200 (by omega)
  have h4 := nsmall_ 1 (by decide)
  have hd1' : (dig 1).length ≤ 200 := by rw [show dig 1 = [1] from by decide +kernel]; decide
  have hadd : addN (2 * rtN B) 1 = (dig (2 * rtN B + 1), 0) := by
    have e1 : len32 (2 * rtN B) ≤ 200 := hl2
    have e2 : len32 1 ≤ 200 := hd1'
    have e3 : len32 (2 * rtN B + 1) ≤ 200 := hl3
    unfold addN
    rw [if_neg (by omega), if_neg (by omega)]
  have h5 := fun (W : World) (q : Option Addr) (e : Nat) (q' : Option Addr) (e' : Nat) (ha : Arr W q (dig (2 * rtN B))) (hb : (dig (2 * rtN B)).length ≤ e) (ha' : Arr W q' (dig 1)) (hb' : (dig 1).length ≤ e') => nadd_ q q' e e' (dig (2 * rtN B)) (dig 1) W ha ha' (Wd_dig _) (Wd_dig _) (by omega) (by omega) hb hb'
  rw [val_dig, val_dig, hadd] at h5
  have h6 := fun (W : World) (q : Option Addr) (e : Nat) (ha : Arr W q (dig (2 * rtN B))) (hb : (dig (2 * rtN B)).length ≤ e) (g : Kp w W) => pof_ d false q e (dig (2 * rtN B)) (-1139) W (hT.grown g) (Fq.Tab.grown hQ g) hd1 hd2 ha (Wd_dig _) (by omega) hb
  have h7 := fun (W : World) (q : Option Addr) (e : Nat) (ha : Arr W q (dig (2 * rtN B + 1))) (hb : (dig (2 * rtN B + 1)).length ≤ e) (g : Kp w W) => pof_ d false q e (dig (2 * rtN B + 1)) (-1139) W (hT.grown g) (Fq.Tab.grown hQ g) hd1 hd2 ha (Wd_dig _) (by omega) hb
  rw [val_dig] at h6 h7
  rw [show (((128 : Nat)) : Int) = 128 from rfl] at h1
  rw [show (((1 : Nat)) : Int) = 1 from rfl] at h3 h4
  by_cases c9 : B = rtN B * rtN B
  · rw [if_pos c9, Nat.add_zero]
    rw [decide_eq_true c9] at h2
    generalize ofW d false (2 * rtN B) (-1139) = R at *
    generalize xs.length = LX at *
    dsimp only at h1 h2 h3
    clear hA hB hBB hr hrl hB32 hr32 hrt hR2 hR3 hl2 hl3 hd1' hadd h4 h5 h7 c9 hx hw hv hT hQ hd1 hd2 hl
    go_enter Tryz.func52, Tryz.ntmps52
    go_wp2_with (first | (go_at_call 90; with_reducible refine h1.mono ?_; rintro e w1 ⟨v1, rfl, o1, g1⟩; obtain ⟨p1, c1, rfl, a1, b1⟩ := o1.arr; have h2 := h2 w1 p1 c1 a1 b1; clear o1 a1 b1) | (go_at_call 91; refine h2.mono ?_; rintro e w2 ⟨v2, rfl, o2, g2⟩; obtain ⟨p2, c2, rfl, a2, b2⟩ := o2.arr; have h3 := h3 w2 p2 c2 a2 b2; clear o2 a2 b2) | (go_at_call 90; with_reducible refine h3.mono ?_; rintro e w3 ⟨v3, rfl, o3, g3⟩; obtain ⟨p3, c3, rfl, a3, b3⟩ := o3.arr; have h6 := h6 w3 p3 c3 a3 b3 ((g1.trans g2).trans g3); clear o3) | (go_at_call 47; refine h6.mono ?_; rintro e w6 ⟨rfl, g6⟩))
    exact bodyPost_ret (v := .float .f64 R) (by simp [results, Tryz.results52, go_sem]) rfl ⟨rfl, ((g1.trans g2).trans g3).trans g6⟩
  · rw [if_neg c9]
    rw [decide_eq_false c9] at h2
    generalize ofW d false (2 * rtN B + 1) (-1139) = R at *
    generalize xs.length = LX at *
    dsimp only at h1 h2 h3 h5
    clear hA hB hBB hr hrl hB32 hr32 hrt hR2 hR3 hl2 hl3 hd1' hadd c9 hx hw hv hT hQ hd1 hd2 hl
    go_enter Tryz.func52, Tryz.ntmps52
    go_wp2_with (first | (go_at_call 90; with_reducible refine h1.mono ?_; rintro e w1 ⟨v1, rfl, o1, g1⟩; obtain ⟨p1, c1, rfl, a1, b1⟩ := o1.arr; have h2 := h2 w1 p1 c1 a1 b1; clear o1 a1 b1) | (go_at_call 91; refine h2.mono ?_; rintro e w2 ⟨v2, rfl, o2, g2⟩; obtain ⟨p2, c2, rfl, a2, b2⟩ := o2.arr; have h3 := h3 w2 p2 c2 a2 b2; clear o2 a2 b2) | (go_at_call 90; with_reducible refine h3.mono ?_; rintro e w3 ⟨v3, rfl, o3, g3⟩; obtain ⟨p3, c3, rfl, a3, b3⟩ := o3.arr; have h6 := h6 w3 p3 c3 a3 b3 ((g1.trans g2).trans g3); clear o3) | (go_at_call 51; refine (h4 _).mono ?_; rintro e w4 ⟨v4, rfl, o4, g4⟩; obtain ⟨p4, c4, rfl, a4, b4⟩ := o4.arr; have h5 := h5 w4 p3 c3 p4 c4 (a3.grown g4) b3 a4 b4; clear o4 a4 b4 a3 b3) | (go_at_call 92; refine h5.mono ?_; rintro e w5 ⟨v5, rfl, o5, g5⟩; obtain ⟨p5, c5, rfl, a5, b5⟩ := o5.arr; have h7 := h7 w5 p5 c5 a5 b5 ((((g1.trans g2).trans g3).trans g4).trans g5); clear o5 a5 b5) | (go_at_call 47; refine h7.mono ?_; rintro e w6 ⟨rfl, g6⟩))
    exact bodyPost_ret (v := .float .f64 R) (by simp [results, Tryz.results52, go_sem]) rfl ⟨rfl, (((((g1.trans g2).trans g3).trans g4).trans g5).trans g6)⟩

def rtW (d V s : Int) : Nat := if s = 0 then (if V < 0 then 9221120237041090561 else ofW d false (rtR V.natAbs) (-1139)) else if s = -1 then 9221120237041090561 else limW s
set_option maxRecDepth 20000 in
set_option maxHeartbeats 1000000 in
theorem stroot_ (d : Int) (hd1 : -9223372036854775808 ≤ d) (hd2 : d < 9223372036854775808) (b : Nat) (V : Int) (k : Nat) (s : Int) (hs : s = 0 ∨ s = 1 ∨ s = -1 ∨ s = 2) (hb : V.natAbs < wh) (w : World) (h : St w b V k s) (hT : Tab w) (hQ : Fq.Tab w) : Calls Tryz.prog 14 #[.pointer (some ⟨b, 0, none⟩), .int .i64 d] w fun e w' => e = .returned (.float .f64 (rtW d V s)) ∧ Kp w w' := by
  obtain ⟨ws, hR, hS⟩ := h
  have hnan := mnan_
  unfold rtW
  by_cases s0 : s = 0
  · subst s0
    rw [if_pos rfl]
    have hsg := signF_ b ws V hR hb k w hS
    by_cases c : V < 0
    · rw [if_pos c]
      rw [show sgV V = -1 from by unfold sgV; rw [if_pos c]] at hsg
      clear hS hR hb hT hQ hd1 hd2 c
      go_enter Tryz.func14, Tryz.ntmps14
      go_wp2_with (first | (go_at_call 11; refine hsg.mono ?_; rintro e w1 ⟨rfl, g1⟩) | (go_at_call 49; refine (hnan _).mono ?_; rintro e w' ⟨rfl, hw'⟩; obtain rfl := hw'.symm; clear hw'))
      exact bodyPost_ret (v := .float .f64 9221120237041090561) (by simp [results, Tryz.results14, go_sem]) rfl ⟨rfl, g1⟩
    · rw [if_neg c]
      have hsn : ¬ sgV V < 0 := by
        unfold sgV
        rw [if_neg c]
        by_cases z : V = 0
        · rw [if_pos z]; omega
        · rw [if_neg z]; omega
      have hnt := natP_ ws V hR hb c
      have hld := fun (W : World) (g : Kp w W) => loadS (w := W) (b := b) (ws := ws) (k := k) (s := 0) ⟨hS.1, hS.2.kp g⟩
      have hst := hS.state
      have hsq := fun (W : World) (q : Option Addr) (e : Nat) (xs : List Int) (ha : Arr W q xs) (hw : Wd xs) (hl : xs.length = 134) (hc : xs.length ≤ e) (hv : val xs = V.natAbs) (g : Kp w W) => tsqrt_ d hd1 hd2 q e xs V.natAbs W ha hw hl hc hv (hT.grown g) (Fq.Tab.grown hQ g)
      generalize sgV V = SG at *
      generalize ofW d false (rtR V.natAbs) (-1139) = R at *
      clear hR hb hT hQ hd1 hd2 c hS hnan
      go_enter Tryz.func14, Tryz.ntmps14
      go_upto_region 5 with (first | (go_at_call 11; refine hsg.mono ?_; rintro e w1 ⟨rfl, g1⟩; replace hst := kkeep g1 hst))
      have hld := hld w1 g1
      refine wp_region_list ?_
      refine wpl_val rfl _ rfl ?_
      refine wpl_val rfl _ rfl ?_
      refine wpl_field rfl _ _ _ rfl _ _ rfl (fa0 b _) ?_
      refine wpl_load rfl 52 _ rfl b 0 rfl _ hld ?_
      go_wp2_with (first | (go_at_call 46; refine (hnt _).mono ?_; rintro e w2 ⟨v, xs, rfl, ho, hwx, hxl, hvx, g2⟩; obtain ⟨q, e9, rfl, hx, hc⟩ := ho.arr; have hsq := hsq w2 q e9 xs hx hwx hxl hc hvx (g1.trans g2); clear hxl hvx hx hc hwx ho) | (go_at_call 52; refine hsq.mono ?_; rintro e w3 ⟨rfl, g3⟩))
      exact bodyPost_ret (v := .float .f64 R) (by simp [results, Tryz.results14, go_sem]) rfl ⟨rfl, (g1.trans g2).trans g3⟩
  · rw [if_neg s0]
    have hsg := signX_ b ws k s (by omega) w hS
    have hst := hS.state
    have hli := limit_ s
    by_cases c : s = -1
    · rw [if_pos c]
      subst c
      rw [if_neg (by decide)] at hsg
      clear hS hR hb hT hQ hd1 hd2 hli s0 hs
      go_enter Tryz.func14, Tryz.ntmps14
      go_wp2_with (first | (go_at_call 11; refine hsg.mono ?_; rintro e w1 ⟨rfl, g1⟩) | (go_at_call 49; refine (hnan _).mono ?_; rintro e w' ⟨rfl, hw'⟩; obtain rfl := hw'.symm; clear hw'))
      exact bodyPost_ret (v := .float .f64 9221120237041090561) (by simp [results, Tryz.results14, go_sem]) rfl ⟨rfl, g1⟩
    · rw [if_neg c]
      have hsn : ¬ (if s = 2 then 0 else s) < 0 := by split <;> omega
      have hsz : (s != 0) = true := by simpa using s0
      generalize (if s = 2 then 0 else s) = SG at *
      generalize limW s = R at *
      clear hS hR hb hT hQ hd1 hd2 hs s0 c
      go_enter Tryz.func14, Tryz.ntmps14
      go_wp2_with (first | (go_at_call 11; refine hsg.mono ?_; rintro e w1 ⟨rfl, g1⟩; replace hst := kkeep g1 hst) | (go_at_call 45; refine (hli _).mono ?_; rintro e w' ⟨rfl, hw'⟩; obtain rfl := hw'.symm; clear hw'))
      exact bodyPost_ret (v := .float .f64 R) (by simp [results, Tryz.results14, go_sem]) rfl ⟨rfl, g1⟩

def ovW (d n V s : Int) : Nat := if n < 1 then 9221120237041090561 else if s = 0 then ratW d (decide (V < 0)) V.natAbs n.toNat (-2148) else limW s
def sgS (V s : Int) : Int := if s = 0 then sgV V else if s = 2 then 0 else s
set_option maxRecDepth 20000 in
set_option maxHeartbeats 600000 in
theorem stover_ (d : Int) (hd1 : -9223372036854775808 ≤ d) (hd2 : d < 9223372036854775808) (n : Int) (hn : n < 9223372036854775808) (b : Nat) (V : Int) (k : Nat) (s : Int) (hb : V.natAbs < wh) (w : World) (h : St w b V k s) (hQ : Fq.Tab w) : Calls Tryz.prog 13 #[.pointer (some ⟨b, 0, none⟩), .int .i64 d, .int .i64 n] w fun e w' => e = .returned (.float .f64 (ovW d n V s)) ∧ Kp w w' := by
  obtain ⟨ws, hR, hS⟩ := h
  have hnan := mnan_
  unfold ovW
  by_cases c : n < 1
  · rw [if_pos c]
    clear hS hR hb hQ hd1 hd2 hn
    go_enter Tryz.func13, Tryz.ntmps13
    go_wp2_with (first | (go_at_call 49; refine (hnan _).mono ?_; rintro e w' ⟨rfl, hw'⟩; obtain rfl := hw'.symm; clear hw'))
    exact bodyPost_ret (v := .float .f64 9221120237041090561) (by simp [results, Tryz.results13, go_sem]) rfl ⟨rfl, Kp.refl _⟩
  · rw [if_neg c]
    by_cases s0 : s = 0
    · rw [if_pos s0]
      subst s0
      obtain ⟨N, rfl⟩ := Int.eq_ofNat_of_zero_le (show 0 ≤ n by omega)
      exact overF_ d hd1 hd2 N (by omega) (by omega) b ws V hR hb k w hS hQ
    · rw [if_neg s0]
      have hli := limit_ s
      have hst := hS.state
      have hsz : (s != 0) = true := by simpa using s0
      generalize limW s = R at *
      clear hS hR hb hQ hd1 hd2 hn s0 hnan
      go_enter Tryz.func13, Tryz.ntmps13
      go_wp2_with (first | (go_at_call 45; refine (hli _).mono ?_; rintro e w' ⟨rfl, hw'⟩; obtain rfl := hw'.symm; clear hw'))
      exact bodyPost_ret (v := .float .f64 R) (by simp [results, Tryz.results13, go_sem]) rfl ⟨rfl, Kp.refl _⟩
theorem stsign_ (b : Nat) (V : Int) (k : Nat) (s : Int) (hs : s = 0 ∨ s = 1 ∨ s = -1 ∨ s = 2) (hb : V.natAbs < wh) (w : World) (h : St w b V k s) : Calls Tryz.prog 11 #[.pointer (some ⟨b, 0, none⟩)] w fun e w' => e = .returned (.int .i64 (sgS V s)) ∧ Kp w w' := by
  obtain ⟨ws, hR, hS⟩ := h
  unfold sgS
  by_cases c : s = 0
  · rw [if_pos c]; subst c; exact signF_ b ws V hR hb k w hS
  · rw [if_neg c]; exact signX_ b ws k s (by omega) w hS
theorem ststate_ (b : Nat) (V : Int) (k : Nat) (s : Int) (w : World) (h : St w b V k s) : Calls Tryz.prog 12 #[.pointer (some ⟨b, 0, none⟩)] w fun e w' => e = .returned (.int .i64 s) ∧ w' = w := by
  obtain ⟨ws, hR, hS⟩ := h
  exact state_ b ws k s w hS
theorem bitsany_ (X : Nat) : ∃ Z : Int, ∀ w : World, Calls Tryz.prog 9 #[.float .f64 X] w fun e w' => e = .returned (.int .u64 Z) ∧ w' = w := by
  cases h : (FloatKind.f64.format.order X X != some .eq)
  · exact ⟨_, bits4_ X h⟩
  · exact ⟨_, bitsNaN4_ X h⟩
def Sn (w : World) (b : Nat) (V s : Int) (n : Nat) : Prop := ∃ k, k ≤ n ∧ St w b V k s
theorem Sn.kp {w w' : World} {b : Nat} {V s : Int} {n : Nat} (h : Sn w b V s n) (g : Kp w w') : Sn w' b V s n := by
  obtain ⟨k, h1, h2⟩ := h
  exact ⟨k, h1, h2.kp g⟩
theorem Sn.kb {w w' : World} {b c : Nat} {V s : Int} {n : Nat} (h : Sn w b V s n) (g : Kb c w w') (hne : b ≠ c) : Sn w' b V s n := by
  obtain ⟨k, h1, h2⟩ := h
  exact ⟨k, h1, h2.kb g hne⟩
theorem Sn.lt {w : World} {b : Nat} {V s : Int} {n : Nat} (h : Sn w b V s n) : b < w.heap.size := by
  obtain ⟨k, h1, h2⟩ := h
  exact h2.lt
def OkS (s : Int) : Prop := s = 0 ∨ s = 1 ∨ s = -1 ∨ s = 2
set_option maxRecDepth 20000 in
set_option maxHeartbeats 2000000 in
theorem alike_ (n : Int) (hn : n < 9223372036854775808) (b1 b2 : Nat) (V : Int) (k1 k2 : Nat) (s : Int) (hs : OkS s) (hb : V.natAbs < wh) (w : World) (h1 : St w b1 V k1 s) (h2 : St w b2 V k2 s) (hT : Tab w) (hQ : Fq.Tab w) : Calls Tryz.prog 35 #[.pointer (some ⟨b1, 0, none⟩), .pointer (some ⟨b2, 0, none⟩), .int .i64 n] w fun e w' => e = .returned (.bool true) ∧ Kp w w' := by
  have H0 : Hid (St w b1 V k1 s ∧ St w b2 V k2 s) := ⟨h1, h2⟩
  have HB : Hid (V.natAbs < wh ∧ n < 9223372036854775808 ∧ OkS s) := ⟨hb, hn, hs⟩
  clear h1 h2 hb hn hs
  go_enter Tryz.func35, Tryz.ntmps35
  go_wp2_with fail
  go_loopw [7] (fun dd wr => ∃ d : Int, dd = .int .i64 d ∧ -1 ≤ d ∧ d ≤ 2 ∧ St wr b1 V k1 s ∧ St wr b2 V k2 s ∧ Kp w wr) (fun dd _ => (2 - intOf dd).toNat)
  case atStart => exact ⟨-1, rfl, by decide, by decide, H0.out.1, H0.out.2, Kp.refl _⟩
  case round =>
    obtain ⟨d, rfl, hd1, hd2, h1, h2, hk⟩ := hrel
    obtain ⟨hb, hn, hs⟩ := HB.out
    clear H0
    by_cases cd : d ≤ 1
    · obtain ⟨Z1, hz1⟩ := bitsany_ (rdW d V s)
      obtain ⟨Z2, hz2⟩ := bitsany_ (ovW d n V s)
      obtain ⟨Z3, hz3⟩ := bitsany_ (rtW d V s)
      go_wp2_with fail
      refine (stround_ d (by omega) (by omega) b1 V _ s hb _ h1 (hT.grown hk) (Fq.Tab.grown hQ hk)).mono ?_
      rintro e w9 ⟨rfl, g⟩
      replace h1 := h1.kp g
      replace h2 := h2.kp g
      replace hk := hk.trans g
      clear g
      go_wp2_with fail
      refine (hz1 _).mono ?_
      rintro e w' ⟨rfl, hw'⟩; obtain rfl := hw'.symm; clear hw'
      go_wp2_with fail
      refine (stround_ d (by omega) (by omega) b2 V _ s hb _ h2 (hT.grown hk) (Fq.Tab.grown hQ hk)).mono ?_
      rintro e w9 ⟨rfl, g⟩
      replace h1 := h1.kp g
      replace h2 := h2.kp g
      replace hk := hk.trans g
      clear g
      go_wp2_with fail
      refine (hz1 _).mono ?_
      rintro e w' ⟨rfl, hw'⟩; obtain rfl := hw'.symm; clear hw'
      go_wp2_with fail
      refine (stover_ d (by omega) (by omega) n hn b1 V _ s hb _ h1 (Fq.Tab.grown hQ hk)).mono ?_
      rintro e w9 ⟨rfl, g⟩
      replace h1 := h1.kp g
      replace h2 := h2.kp g
      replace hk := hk.trans g
      clear g
      go_wp2_with fail
      refine (hz2 _).mono ?_
      rintro e w' ⟨rfl, hw'⟩; obtain rfl := hw'.symm; clear hw'
      go_wp2_with fail
      refine (stover_ d (by omega) (by omega) n hn b2 V _ s hb _ h2 (Fq.Tab.grown hQ hk)).mono ?_
      rintro e w9 ⟨rfl, g⟩
      replace h1 := h1.kp g
      replace h2 := h2.kp g
      replace hk := hk.trans g
      clear g
      go_wp2_with fail
      refine (hz2 _).mono ?_
      rintro e w' ⟨rfl, hw'⟩; obtain rfl := hw'.symm; clear hw'
      go_wp2_with fail
      refine (stroot_ d (by omega) (by omega) b1 V _ s hs hb _ h1 (hT.grown hk) (Fq.Tab.grown hQ hk)).mono ?_
      rintro e w9 ⟨rfl, g⟩
      replace h1 := h1.kp g
      replace h2 := h2.kp g
      replace hk := hk.trans g
      clear g
      go_wp2_with fail
      refine (hz3 _).mono ?_
      rintro e w' ⟨rfl, hw'⟩; obtain rfl := hw'.symm; clear hw'
      go_wp2_with fail
      refine (stroot_ d (by omega) (by omega) b2 V _ s hs hb _ h2 (hT.grown hk) (Fq.Tab.grown hQ hk)).mono ?_
      rintro e w9 ⟨rfl, g⟩
      replace h1 := h1.kp g
      replace h2 := h2.kp g
      replace hk := hk.trans g
      clear g
      go_wp2_with fail
      refine (hz3 _).mono ?_
      rintro e w' ⟨rfl, hw'⟩; obtain rfl := hw'.symm; clear hw'
      have hwd1 : IntKind.i64.wrap (d + 1) = d + 1 := by rw [IntKind.wrap_i64]; omega
      go_wp2
      exact ⟨⟨d + 1, rfl, by omega, by omega, h1, h2, hk⟩, (show (2 - (d + 1)).toNat < (2 - d).toNat by omega)⟩
    · have hg1 := stsign_ b1 V k1 s hs hb _ h1
      go_wp2_with fail
      refine hg1.mono ?_
      rintro e w2 ⟨rfl, g2⟩
      have hg2 := stsign_ b2 V k2 s hs hb _ (h2.kp g2)
      go_wp2_with fail
      refine hg2.mono ?_
      rintro e w3 ⟨rfl, g3⟩
      have ht1 := ststate_ b1 V k1 s _ ((h1.kp g2).kp g3)
      have ht2 := ststate_ b2 V k2 s _ ((h2.kp g2).kp g3)
      go_wp2_with fail
      refine ht1.mono ?_
      rintro e w' ⟨rfl, hw'⟩; obtain rfl := hw'.symm; clear hw'
      go_wp2_with fail
      refine ht2.mono ?_
      rintro e w' ⟨rfl, hw'⟩; obtain rfl := hw'.symm; clear hw'
      go_wp2
      exact bodyPost_ret (v := .bool true) (by simp [results, Tryz.results35, go_sem]) rfl ⟨rfl, (hk.trans g2).trans g3⟩
end Go.Proofs.YteedfmghgkmofaaGreatDoor
