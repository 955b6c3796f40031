import Derived.Test.YteedfmghgkmofaaGreatDoorKDTotalTight0
import Derived.WalkKit
import Derived.ProofKit
import Derived.RowKit3
import Derived.WalkSpells
import Derived.StillTactics
import Derived.Deep.QuietTactic
import Derived.BigQuiet
import Derived.Below
import Derived.Deep.OwnRows
import Derived.OwnWalk
import Derived.RowKit
import Derived.Laws.BitsAllLaws
import Derived.Laws.Slices
import Derived.Laws.Bits64b
import Derived.Deep.DeepCutAuto
import Derived.Deep.RegionHeld3
namespace Go.Proofs.YteedfmghgkmofaaGreatDoor
open Go.RowKit
set_option maxRecDepth 20000 in
theorem cmpR (v1 v2 : Value) (a b : Nat) (w : World) (h1 : Ls w v1 (dig a)) (h2 : Ls w v2 (dig b)) (l1 : blen a ≤ 33554432) (l2 : blen b ≤ 33554432) :
    Calls Tryz.prog 75 #[v1, v2] w fun e w' => e = .returned (.int .i64 (cmpN a b)) ∧ Kp w w' := by
  obtain ⟨p, c, rfl, hA, hc⟩ := h1
  obtain ⟨q, d, rfl, hB, hd⟩ := h2
  have e1 := dlen a 1048576 (by omega)
  have e2 := dlen b 1048576 (by omega)
  have h := rcmp_ p q c d (dig a) (dig b) w hA hB (Wd_dig a) (Wd_dig b) (by omega) (by omega)
  rw [val_dig, val_dig] at h
  exact h
set_option maxRecDepth 20000 in
theorem normR (v : Value) (L : List Int) (w : World) (h : Ls w v L) (hw : Wd L) (l : L.length ≤ 1048576) :
    Calls Tryz.prog 77 #[v] w fun e w' => ∃ v', e = .returned v' ∧ Ls w' v' (dig (val L)) ∧ Kp w w' := by
  obtain ⟨p, c, rfl, hA, hc⟩ := h
  have h := rnorm_ p c L w hA (by omega)
  rw [nz_dig L hw] at h
  exact h.mono fun e w' ⟨v, h1, h2, h3⟩ => ⟨v, h1, h2.ls, h3⟩
end Go.Proofs.YteedfmghgkmofaaGreatDoor
namespace Go.Proofs.YteedfmghgkmofaaGreatDoor
open Go.RowKit
theorem wd1 (x : Nat) (h : x < 4294967296) : Wd [(x : Int)] := Wd.mk (by omega) Wd.nil
end Go.Proofs.YteedfmghgkmofaaGreatDoor
namespace Go.Proofs.YteedfmghgkmofaaGreatDoor
open Go.RowKit
set_option maxRecDepth 20000 in
set_option maxHeartbeats 400000 in
theorem rsign_ (neg : Bool) (vn vd : Value) (n : Nat) (w : World) (hn : Ls w vn (dig n)) (l : blen n ≤ 33554432) :
    Calls Tryz.prog 41 #[.agg #[.bool neg, vn, vd]] w fun e w' => e = .returned (.int .i64 (if n = 0 then 0 else if neg then -1 else 1)) ∧ Kp w w' := by
  obtain ⟨w0, hw0⟩ : ∃ w0, w0 = w.alloc (.cells #[.bool neg, vn, vd] 43) := ⟨_, rfl⟩
  have hk0 : Kp w w0 := by rw [hw0]; exact (Kp.refl w).alloc _
  have c0 : w0.cell? ⟨w.heap.size, 0, none⟩ = some (.bool neg) := by rw [hw0]; simp [go_sem]
  have hc := normR vn (dig n) w0 (hn.kp hk0) (Wd_dig n) (dlen n 1048576 (by omega))
  rw [val_dig] at hc
  have hlz := dig_len_zero n
  obtain ⟨M, hM⟩ : ∃ M, M = (dig n).length := ⟨_, rfl⟩
  have HM : Hid (M = (dig n).length) := hM
  rw [← hM] at hlz
  clear hn l hM
  by_cases cz : n = 0
  · have hM0 : M = 0 := hlz.2 cz
    rw [if_pos cz]
    clear hlz cz
    go_enter Tryz.func41, Tryz.ntmps41
    go_wp2_with fail
    rw [← hw0]
    refine hc.mono ?_; rintro e w1 ⟨v1, rfl, ⟨p1, c1, rfl, _, _⟩, hk⟩
    rw [← HM.out]
    subst hM0
    have K1 : Kp w w1 := hk0.trans hk
    clear hc hk hw0 hk0 c0
    go_wp2
    exact bodyPost_ret (v := .int .i64 0) (by simp [results, Tryz.results41, go_sem]) rfl ⟨rfl, K1⟩
  · have hM0 : ¬ ((M : Int) = 0) := by have := mt hlz.1 cz; omega
    rw [if_neg cz]
    clear hlz cz
    go_enter Tryz.func41, Tryz.ntmps41
    go_wp2_with fail
    rw [← hw0]
    refine hc.mono ?_; rintro e w1 ⟨v1, rfl, ⟨p1, c1, rfl, _, _⟩, hk⟩
    rw [← HM.out]
    have K1 : Kp w w1 := hk0.trans hk
    have c1' := kkeep hk c0
    clear hc hk hw0 hk0 c0
    cases neg
    · go_wp2
      exact bodyPost_ret (v := .int .i64 1) (by simp [results, Tryz.results41, go_sem]) rfl ⟨rfl, K1⟩
    · go_wp2
      exact bodyPost_ret (v := .int .i64 (-1)) (by simp [results, Tryz.results41, go_sem]) rfl ⟨rfl, K1⟩
end Go.Proofs.YteedfmghgkmofaaGreatDoor
namespace Go.Proofs.YteedfmghgkmofaaGreatDoor
open Go.RowKit
set_option maxRecDepth 20000 in
theorem normO (v : Value) (L : List Int) (w : World) (h : Ls w v L) (hw : Wd L) (l : L.length ≤ 1048576) :
    Calls Tryz.prog 77 #[v] w fun e w' => ∃ v', e = .returned v' ∧ Own w' w.heap.size v' (dig (val L)) ∧ Kp w w' := by
  obtain ⟨p, c, rfl, hA, hc⟩ := h
  have h := rnorm_ p c L w hA (by omega)
  rw [nz_dig L hw] at h
  exact h
set_option maxRecDepth 20000 in
theorem zerosR (v : Value) (a : Nat) (w : World) (h : Ls w v (dig a)) (l : blen a ≤ 33554432) :
    Calls Tryz.prog 110 #[v] w fun e w' => e = .returned (.int .i64 (ctz a : Nat)) ∧ w' = w := by
  obtain ⟨p, c, rfl, hA, hc⟩ := h
  have e1 := dlen a 1048576 (by omega)
  have h := rzeros_ p c (dig a) w hA (Wd_dig a) (by omega)
  rw [val_dig] at h
  exact h
set_option maxRecDepth 20000 in
theorem rightO (v : Value) (a m : Nat) (w : World) (h : Ls w v (dig a)) (l : blen a ≤ 33554432) (hm : m ≤ 33554432) :
    Calls Tryz.prog 111 #[v, .int .i64 (m : Int)] w fun e w' => ∃ v' b, e = .returned (.tuple #[v', .bool b]) ∧ Own w' w.heap.size v' (dig (a / 2 ^ m)) ∧ Kp w w' := by
  obtain ⟨p, c, rfl, hA, hc⟩ := h
  have e1 := dlen a 1048576 (by omega)
  have h := rright_ p c m (dig a) w hA (Wd_dig a) (by omega) (by omega)
  rw [val_dig] at h
  exact h.mono fun e w' ⟨v, h1, h2, h3⟩ => ⟨v, _, h1, h2, h3⟩
set_option maxRecDepth 20000 in
theorem leftO (v : Value) (a m : Nat) (w : World) (h : Ls w v (dig a)) (l : blen a ≤ 16777216) (hm : m ≤ 16777216) :
    Calls Tryz.prog 107 #[v, .int .i64 (m : Int)] w fun e w' => ∃ v', e = .returned v' ∧ Own w' w.heap.size v' (dig (a * 2 ^ m)) ∧ Kp w w' := by
  obtain ⟨p, c, rfl, hA, hc⟩ := h
  have h := rleft_ p c m (dig a) w hA (Wd_dig a) (Nat.le_trans (dlen a 524288 (by omega)) (by omega)) hm
  rw [val_dig] at h
  exact h
end Go.Proofs.YteedfmghgkmofaaGreatDoor
namespace Go.Proofs.YteedfmghgkmofaaGreatDoor
open Go.RowKit
set_option maxRecDepth 20000 in
set_option maxHeartbeats 1000000 in
theorem frac_ (neg : Bool) (vn vd : Value) (Ln Ld : List Int) (exp : Int) (w : World) (hn : Ls w vn Ln) (hd : Ls w vd Ld) (hwn : Wd Ln) (hwd : Wd Ld) (ln : Ln.length ≤ 32768) (ld : Ld.length ≤ 32768) (hb : val Ld ≠ 0) (he : exp.natAbs ≤ 1048576) :
    Calls Tryz.prog 71 #[.bool neg, vn, vd, .int .i64 exp] w fun e w' => ∃ (vn' vd' : Value) (a' b' : Nat) (ng : Bool), e = .returned (.agg #[.bool ng, vn', vd']) ∧ Own w' w.heap.size vn' (dig a') ∧ Own w' w.heap.size vd' (dig b') ∧ (FracOf (val Ln) (val Ld) exp a' b' ∧ (val Ln ≠ 0 → ng = neg)) ∧ Kp w w' := by
  obtain ⟨w0, hw0⟩ : ∃ w0, w0 = w.alloc (.cells #[.bool false, .slice none 0 0, .slice none 0 0] 43) := ⟨_, rfl⟩
  have hk0 : Kp w w0 := by rw [hw0]; exact (Kp.refl w).alloc _
  obtain ⟨a, ha⟩ : ∃ a, a = val Ln := ⟨_, rfl⟩
  obtain ⟨b, hb9⟩ : ∃ b, b = val Ld := ⟨_, rfl⟩
  have hc := normO vn Ln w0 (hn.kp hk0) hwn (by omega)
  have hc2 := fun w' (k : Kp w0 w') => normO vd Ld w' ((hd.kp hk0).kp k) hwd (by omega)
  have la : blen a ≤ 1048576 := by
    have := blen_len a Ln.length (by rw [ha, ← tl_len Ln hwn]; exact tl_le Ln)
    omega
  have lb : blen b ≤ 1048576 := by
    have := blen_len b Ld.length (by rw [hb9, ← tl_len Ld hwd]; exact tl_le Ld)
    omega
  rw [← ha] at hc
  rw [← hb9] at hc2 hb
  rw [← ha, ← hb9]
  have HLA : Hid (blen a ≤ 1048576 ∧ blen b ≤ 1048576 ∧ b ≠ 0 ∧ exp.natAbs ≤ 1048576) := ⟨la, lb, hb, he⟩
  have Hw0 : Hid (w0 = w.alloc (.cells #[.bool false, .slice none 0 0, .slice none 0 0] 43)) := hw0
  clear hk0 ha hb9 hn hd hwn hwd ln ld la lb hb he
  by_cases cz : a = 0
  · subst cz
    rw [dig_zero] at hc
    go_enter Tryz.func71, Tryz.ntmps71
    go_wp2_with fail
    rw [← hw0]
    refine hc.mono ?_; rintro e w1 ⟨v1, rfl, hO, hk⟩
    obtain ⟨p1, c1, rfl, _⟩ := hO.len
    have hc3 := hc2 w1 hk
    have K0 : Hid (Kp w0 w1) := hk
    clear hc hc2 hO hk hw0
    go_wp2_with fail
    refine hc3.mono ?_; rintro e w2 ⟨v2, rfl, hO, hk⟩
    replace K0 : Hid (Kp w0 w2) := K0.out.trans hk
    clear hc3 hO hk
    obtain ⟨w3, hw3⟩ : ∃ w3, w3 = w2.alloc (.cells #[.int .u32 1] 100) := ⟨_, rfl⟩
    obtain ⟨g3, hg3⟩ : ∃ g3, g3 = w2.heap.size := ⟨_, rfl⟩
    have O1 := own1 w2
    rw [← hw3, ← hg3] at O1
    have hsz := K0.out.size
    rw [← hg3] at hsz
    replace K0 : Hid (Kp w0 w3) := K0.out.trans (by rw [hw3]; exact (Kp.refl _).alloc _)
    have ON : Hid (Own w3 w0.heap.size (.slice none 0 0) (dig 0)) := by rw [dig_zero]; exact Own.nil _ _
    have OD : Hid (Own w3 w0.heap.size (.slice (some ⟨g3, 0, none⟩) 1 1) (dig 1)) := by
      rw [dig_one]
      exact O1.mono hsz
    have HFR : Hid (FracOf 0 b exp 0 1) := ⟨by decide, by simp, fun _ _ _ h => absurd rfl h, by rw [blen_zero]; omega, by have : blen 1 = 1 := blen_uniq 1 0 (by decide) (by decide); omega⟩
    have HW3 : Hid (w2.alloc (.cells #[.int .u32 1] 100) = w3 ∧ w2.heap.size = g3) := ⟨hw3.symm, hg3.symm⟩
    clear O1 hsz hw3 hg3
    have hlt : w.heap.size < w0.heap.size := by rw [Hw0.out]; simp
    have k0 := kkeep K0.out (b := w.heap.size) (o := 0) (v := .bool false) (by rw [Hw0.out]; simp [go_sem])
    have z0 : w3.frozen? ⟨w.heap.size, 0, none⟩ = false := by rw [Below.frozen K0.out hlt, Hw0.out]; simp [go_sem]
    have k1 := kkeep K0.out (b := w.heap.size) (o := 1) (v := .slice none 0 0) (by rw [Hw0.out]; simp [go_sem])
    have z1 : w3.frozen? ⟨w.heap.size, 1, none⟩ = false := by rw [Below.frozen K0.out hlt, Hw0.out]; simp [go_sem]
    have k2 := kkeep K0.out (b := w.heap.size) (o := 2) (v := .slice none 0 0) (by rw [Hw0.out]; simp [go_sem])
    have z2 : w3.frozen? ⟨w.heap.size, 2, none⟩ = false := by rw [Below.frozen K0.out hlt, Hw0.out]; simp [go_sem]
    have hk9 : Kp w w0 := by rw [Hw0.out]; exact (Kp.refl w).alloc _
    have hk0 : Kp w w3 := hk9.trans K0.out
    have HZ : Hid (Own (((w3.setCell ⟨w.heap.size, 0, none⟩ (.bool false)).setCell ⟨w.heap.size, 1, none⟩ (.slice none 0 0)).setCell ⟨w.heap.size, 2, none⟩ (.slice (some ⟨g3, 0, none⟩) 1 1)) w.heap.size (.slice none 0 0) (dig (0)) ∧ Own (((w3.setCell ⟨w.heap.size, 0, none⟩ (.bool false)).setCell ⟨w.heap.size, 1, none⟩ (.slice none 0 0)).setCell ⟨w.heap.size, 2, none⟩ (.slice (some ⟨g3, 0, none⟩) 1 1)) w.heap.size (.slice (some ⟨g3, 0, none⟩) 1 1) (dig (1)) ∧ Kp w (((w3.setCell ⟨w.heap.size, 0, none⟩ (.bool false)).setCell ⟨w.heap.size, 1, none⟩ (.slice none 0 0)).setCell ⟨w.heap.size, 2, none⟩ (.slice (some ⟨g3, 0, none⟩) 1 1))) := ⟨((((ON.out.setOther hlt (.bool false)).setOther hlt (.slice none 0 0)).setOther hlt (.slice (some ⟨g3, 0, none⟩) 1 1))).mono (Nat.le_of_lt hlt), ((((OD.out.setOther hlt (.bool false)).setOther hlt (.slice none 0 0)).setOther hlt (.slice (some ⟨g3, 0, none⟩) 1 1))).mono (Nat.le_of_lt hlt), (((hk0.setCell (Nat.le_refl _) (.bool false)).setCell (Nat.le_refl _) (.slice none 0 0)).setCell (Nat.le_refl _) (.slice (some ⟨g3, 0, none⟩) 1 1))⟩
    clear hk0 hlt hk9
    obtain ⟨q1, q2⟩ := HW3.out
    subst q1
    subst q2
    clear HW3
    go_wp2
    exact bodyPost_ret (v := .agg #[.bool false, .slice none 0 0, .slice (some ⟨w2.heap.size, 0, none⟩) 1 1]) (by simp [results, Tryz.results71, go_sem] <;> simp [go_sem, *]) rfl ⟨_, _, 0, 1, false, rfl, HZ.out.1, HZ.out.2.1, ⟨HFR.out, fun h => absurd rfl h⟩, HZ.out.2.2⟩
  · have HA0 : Hid (a ≠ 0) := cz
    obtain ⟨a1, ho1, ea, da, hka⟩ := ctz_odd a cz
    obtain ⟨b1, ho2, eb, db, hkb⟩ := ctz_odd b HLA.out.2.2.1
    obtain ⟨ka, hka9⟩ : ∃ ka, ka = ctz a := ⟨_, rfl⟩
    obtain ⟨kb, hkb9⟩ : ∃ kb, kb = ctz b := ⟨_, rfl⟩
    rw [← hka9] at ea da hka
    rw [← hkb9] at eb db hkb
    obtain ⟨e1, he1⟩ : ∃ e1 : Int, e1 = exp + ka := ⟨_, rfl⟩
    obtain ⟨ex, hex⟩ : ∃ ex : Int, ex = e1 - kb := ⟨_, rfl⟩
    obtain ⟨x, hx⟩ : ∃ x, x = ex.toNat := ⟨_, rfl⟩
    obtain ⟨y, hy⟩ : ∃ y, y = (-ex).toNat := ⟨_, rfl⟩
    have hfr := frac_of a b a1 b1 ka kb x y exp ex (by omega) (by omega) ea eb hka hkb (by rw [hex, he1]) hx hy
    have HFR : Hid (FracOf a b exp (a1 * 2 ^ x) (b1 * 2 ^ y)) := hfr
    have hla := HLA.out
    have ba1 : blen a1 ≤ blen a := by rw [ea, blen_mul _ _ (by omega)]; omega
    have bb1 : blen b1 ≤ blen b := by rw [eb, blen_mul _ _ (by omega)]; omega
    have HB1 : Hid (blen a1 ≤ 16777216 ∧ blen b1 ≤ 16777216 ∧ x ≤ 16777216 ∧ y ≤ 16777216) := ⟨by omega, by omega, by omega, by omega⟩
    have g1 : wrap64 (exp + (ka : Int)) = e1 := by rw [← he1]; exact w64x _ (by omega) (by omega)
    have g2 : wrap64 (e1 - (kb : Int)) = ex := by rw [← hex]; exact w64x _ (by omega) (by omega)
    have HX : Hid (x = ex.toNat ∧ y = (-ex).toNat) := ⟨hx, hy⟩
    have HD : Hid (a / 2 ^ ka = a1 ∧ b / 2 ^ kb = b1 ∧ ka = ctz a ∧ kb = ctz b ∧ ka ≤ 1048576 ∧ kb ≤ 1048576) := ⟨da, db, hka9, hkb9, by omega, by omega⟩
    have hlz := dig_len_zero a
    obtain ⟨M, hM⟩ : ∃ M, M = (dig a).length := ⟨_, rfl⟩
    rw [← hM] at hlz
    have t0 : ¬ ((M : Int) = 0) := by have := mt hlz.1 cz; omega
    have HM : Hid (M = (dig a).length) := hM
    clear hfr hla ba1 bb1 ho1 ho2 ea da hka eb db hkb hka9 hkb9 he1 hex hx hy hlz hM cz
    go_enter Tryz.func71, Tryz.ntmps71
    go_wp2_with fail
    rw [← hw0]
    refine hc.mono ?_; rintro e w1 ⟨v1, rfl, hO, hk⟩
    obtain ⟨p1, c1, rfl, _⟩ := hO.len
    have OA : Hid (Own w1 w0.heap.size (.slice p1 (dig a).length c1) (dig a)) := hO
    rw [← HM.out] at OA ⊢
    have hc3 := hc2 w1 hk
    have K0 : Hid (Kp w0 w1) := hk
    clear hc hc2 hO hk hw0
    go_wp2_with fail
    refine hc3.mono ?_; rintro e w2 ⟨v2, rfl, hO, hk⟩
    have OB : Hid (Own w2 w0.heap.size v2 (dig b)) := hO.mono K0.out.size
    replace OA : Hid (Own w2 w0.heap.size (.slice p1 M c1) (dig a)) := OA.out.kp hk
    replace K0 : Hid (Kp w0 w2) := K0.out.trans hk
    clear hc3 hO hk
    have hc := zerosR (.slice p1 M c1) a w2 OA.out.ls (by have := HLA.out; omega)
    rw [← HD.out.2.2.1] at hc
    go_wp2_with fail
    refine hc.mono ?_; rintro e w' ⟨rfl, hw'⟩; obtain rfl := hw'.symm; clear hc hw'
    have hc := rightO (.slice p1 M c1) a ka w2 OA.out.ls (by have := HLA.out; omega) (by have := HD.out; omega)
    rw [HD.out.1] at hc
    go_wp2_with fail
    refine hc.mono ?_; rintro e w3 ⟨v3, bb, rfl, hO, hk⟩
    replace OA : Hid (Own w3 w0.heap.size v3 (dig a1)) := hO.mono K0.out.size
    replace OB : Hid (Own w3 w0.heap.size v2 (dig b)) := OB.out.kp hk
    replace K0 : Hid (Kp w0 w3) := K0.out.trans hk
    clear hc hO hk
    have hc := zerosR v2 b w3 OB.out.ls (by have := HLA.out; omega)
    rw [← HD.out.2.2.2.1] at hc
    go_wp2_with fail
    refine hc.mono ?_; rintro e w' ⟨rfl, hw'⟩; obtain rfl := hw'.symm; clear hc hw'
    have hc := rightO v2 b kb w3 OB.out.ls (by have := HLA.out; omega) (by have := HD.out; omega)
    rw [HD.out.2.1] at hc
    go_wp2_with fail
    refine hc.mono ?_; rintro e w4 ⟨v4, bb2, rfl, hO, hk⟩
    replace OB : Hid (Own w4 w0.heap.size v4 (dig b1)) := hO.mono K0.out.size
    replace OA : Hid (Own w4 w0.heap.size v3 (dig a1)) := OA.out.kp hk
    replace K0 : Hid (Kp w0 w4) := K0.out.trans hk
    clear hc hO hk
    by_cases cx : 0 < ex
    · have hx9 : ex = (x : Int) := by have := HX.out; omega
      have hc := leftO v3 a1 x w4 OA.out.ls HB1.out.1 HB1.out.2.2.1
      rw [← hx9] at hc
      have t1 : 0 < ex := cx
      have t2 : ¬ ex < 0 := by omega
      have HY0 : Hid (y = 0) := by have := HX.out; show _ = _; omega
      clear hx9 cx
      go_wp2_with fail
      try rw [g2]
      refine hc.mono ?_; rintro e w5 ⟨v5, rfl, hO, hk⟩
      have ON : Hid (Own w5 w0.heap.size v5 (dig (a1 * 2 ^ x))) := hO.mono K0.out.size
      have OD : Hid (Own w5 w0.heap.size v4 (dig (b1 * 2 ^ y))) := by rw [HY0.out, Nat.pow_zero, Nat.mul_one]; exact OB.out.kp hk
      replace K0 : Hid (Kp w0 w5) := K0.out.trans hk
      clear hc hO hk OA OB
      obtain ⟨pN, cN, hvN, _⟩ := ON.out.len
      obtain ⟨NN, hNN⟩ : ∃ NN, NN = (dig (a1 * 2 ^ x)).length := ⟨_, rfl⟩
      rw [← hNN] at hvN
      subst hvN
      clear hNN
      obtain ⟨pD, cD, hvD, _⟩ := OD.out.len
      obtain ⟨ND, hND⟩ : ∃ ND, ND = (dig (b1 * 2 ^ y)).length := ⟨_, rfl⟩
      rw [← hND] at hvD
      subst hvD
      clear hND
      have hlt : w.heap.size < w0.heap.size := by rw [Hw0.out]; simp
      have k0 := kkeep K0.out (b := w.heap.size) (o := 0) (v := .bool false) (by rw [Hw0.out]; simp [go_sem])
      have z0 : w5.frozen? ⟨w.heap.size, 0, none⟩ = false := by rw [Below.frozen K0.out hlt, Hw0.out]; simp [go_sem]
      have k1 := kkeep K0.out (b := w.heap.size) (o := 1) (v := .slice none 0 0) (by rw [Hw0.out]; simp [go_sem])
      have z1 : w5.frozen? ⟨w.heap.size, 1, none⟩ = false := by rw [Below.frozen K0.out hlt, Hw0.out]; simp [go_sem]
      have k2 := kkeep K0.out (b := w.heap.size) (o := 2) (v := .slice none 0 0) (by rw [Hw0.out]; simp [go_sem])
      have z2 : w5.frozen? ⟨w.heap.size, 2, none⟩ = false := by rw [Below.frozen K0.out hlt, Hw0.out]; simp [go_sem]
      have hk9 : Kp w w0 := by rw [Hw0.out]; exact (Kp.refl w).alloc _
      have hk0 : Kp w w5 := hk9.trans K0.out
      have HZ : Hid (Own (((w5.setCell ⟨w.heap.size, 0, none⟩ (.bool neg)).setCell ⟨w.heap.size, 1, none⟩ (.slice pN NN cN)).setCell ⟨w.heap.size, 2, none⟩ (.slice pD ND cD)) w.heap.size (.slice pN NN cN) (dig (a1 * 2 ^ x)) ∧ Own (((w5.setCell ⟨w.heap.size, 0, none⟩ (.bool neg)).setCell ⟨w.heap.size, 1, none⟩ (.slice pN NN cN)).setCell ⟨w.heap.size, 2, none⟩ (.slice pD ND cD)) w.heap.size (.slice pD ND cD) (dig (b1 * 2 ^ y)) ∧ Kp w (((w5.setCell ⟨w.heap.size, 0, none⟩ (.bool neg)).setCell ⟨w.heap.size, 1, none⟩ (.slice pN NN cN)).setCell ⟨w.heap.size, 2, none⟩ (.slice pD ND cD))) := ⟨((((ON.out.setOther hlt (.bool neg)).setOther hlt (.slice pN NN cN)).setOther hlt (.slice pD ND cD))).mono (Nat.le_of_lt hlt), ((((OD.out.setOther hlt (.bool neg)).setOther hlt (.slice pN NN cN)).setOther hlt (.slice pD ND cD))).mono (Nat.le_of_lt hlt), (((hk0.setCell (Nat.le_refl _) (.bool neg)).setCell (Nat.le_refl _) (.slice pN NN cN)).setCell (Nat.le_refl _) (.slice pD ND cD))⟩
      clear hk0 hlt hk9
      go_wp2
      exact bodyPost_ret (v := .agg #[.bool neg, .slice pN NN cN, .slice pD ND cD]) (by simp [results, Tryz.results71, go_sem] <;> simp [go_sem, *]) rfl ⟨_, _, a1 * 2 ^ x, b1 * 2 ^ y, neg, rfl, HZ.out.1, HZ.out.2.1, ⟨HFR.out, fun _ => rfl⟩, HZ.out.2.2⟩
    · by_cases cx2 : ex < 0
      · have hx9 : wrap64 (-ex) = (y : Int) := by rw [show -ex = (y : Int) from by have := HX.out; omega]; exact w64x _ (by omega) (by have := HB1.out; omega)
        have hc := leftO v4 b1 y w4 OB.out.ls HB1.out.2.1 HB1.out.2.2.2
        have t1 : ¬ 0 < ex := by omega
        have t2 : ex < 0 := cx2
        have HY0 : Hid (x = 0) := by have := HX.out; show _ = _; omega
        clear cx cx2
        go_wp2_with fail
        try rw [g2]
        try rw [hx9]
        refine hc.mono ?_; rintro e w5 ⟨v5, rfl, hO, hk⟩
        have OD : Hid (Own w5 w0.heap.size v5 (dig (b1 * 2 ^ y))) := hO.mono K0.out.size
        have ON : Hid (Own w5 w0.heap.size v3 (dig (a1 * 2 ^ x))) := by rw [HY0.out, Nat.pow_zero, Nat.mul_one]; exact OA.out.kp hk
        replace K0 : Hid (Kp w0 w5) := K0.out.trans hk
        clear hc hO hk OA OB
        obtain ⟨pN, cN, hvN, _⟩ := ON.out.len
        obtain ⟨NN, hNN⟩ : ∃ NN, NN = (dig (a1 * 2 ^ x)).length := ⟨_, rfl⟩
        rw [← hNN] at hvN
        subst hvN
        clear hNN
        obtain ⟨pD, cD, hvD, _⟩ := OD.out.len
        obtain ⟨ND, hND⟩ : ∃ ND, ND = (dig (b1 * 2 ^ y)).length := ⟨_, rfl⟩
        rw [← hND] at hvD
        subst hvD
        clear hND
        have hlt : w.heap.size < w0.heap.size := by rw [Hw0.out]; simp
        have k0 := kkeep K0.out (b := w.heap.size) (o := 0) (v := .bool false) (by rw [Hw0.out]; simp [go_sem])
        have z0 : w5.frozen? ⟨w.heap.size, 0, none⟩ = false := by rw [Below.frozen K0.out hlt, Hw0.out]; simp [go_sem]
        have k1 := kkeep K0.out (b := w.heap.size) (o := 1) (v := .slice none 0 0) (by rw [Hw0.out]; simp [go_sem])
        have z1 : w5.frozen? ⟨w.heap.size, 1, none⟩ = false := by rw [Below.frozen K0.out hlt, Hw0.out]; simp [go_sem]
        have k2 := kkeep K0.out (b := w.heap.size) (o := 2) (v := .slice none 0 0) (by rw [Hw0.out]; simp [go_sem])
        have z2 : w5.frozen? ⟨w.heap.size, 2, none⟩ = false := by rw [Below.frozen K0.out hlt, Hw0.out]; simp [go_sem]
        have hk9 : Kp w w0 := by rw [Hw0.out]; exact (Kp.refl w).alloc _
        have hk0 : Kp w w5 := hk9.trans K0.out
        have HZ : Hid (Own (((w5.setCell ⟨w.heap.size, 0, none⟩ (.bool neg)).setCell ⟨w.heap.size, 1, none⟩ (.slice pN NN cN)).setCell ⟨w.heap.size, 2, none⟩ (.slice pD ND cD)) w.heap.size (.slice pN NN cN) (dig (a1 * 2 ^ x)) ∧ Own (((w5.setCell ⟨w.heap.size, 0, none⟩ (.bool neg)).setCell ⟨w.heap.size, 1, none⟩ (.slice pN NN cN)).setCell ⟨w.heap.size, 2, none⟩ (.slice pD ND cD)) w.heap.size (.slice pD ND cD) (dig (b1 * 2 ^ y)) ∧ Kp w (((w5.setCell ⟨w.heap.size, 0, none⟩ (.bool neg)).setCell ⟨w.heap.size, 1, none⟩ (.slice pN NN cN)).setCell ⟨w.heap.size, 2, none⟩ (.slice pD ND cD))) := ⟨((((ON.out.setOther hlt (.bool neg)).setOther hlt (.slice pN NN cN)).setOther hlt (.slice pD ND cD))).mono (Nat.le_of_lt hlt), ((((OD.out.setOther hlt (.bool neg)).setOther hlt (.slice pN NN cN)).setOther hlt (.slice pD ND cD))).mono (Nat.le_of_lt hlt), (((hk0.setCell (Nat.le_refl _) (.bool neg)).setCell (Nat.le_refl _) (.slice pN NN cN)).setCell (Nat.le_refl _) (.slice pD ND cD))⟩
        clear hk0 hlt hk9
        go_wp2
        exact bodyPost_ret (v := .agg #[.bool neg, .slice pN NN cN, .slice pD ND cD]) (by simp [results, Tryz.results71, go_sem] <;> simp [go_sem, *]) rfl ⟨_, _, a1 * 2 ^ x, b1 * 2 ^ y, neg, rfl, HZ.out.1, HZ.out.2.1, ⟨HFR.out, fun _ => rfl⟩, HZ.out.2.2⟩
      · have t1 : ¬ 0 < ex := by omega
        have t2 : ¬ ex < 0 := cx2
        have HY0 : Hid (x = 0 ∧ y = 0) := by have := HX.out; exact ⟨by omega, by omega⟩
        clear cx cx2
        have ON : Hid (Own w4 w0.heap.size v3 (dig (a1 * 2 ^ x))) := by rw [HY0.out.1, Nat.pow_zero, Nat.mul_one]; exact OA.out
        have OD : Hid (Own w4 w0.heap.size v4 (dig (b1 * 2 ^ y))) := by rw [HY0.out.2, Nat.pow_zero, Nat.mul_one]; exact OB.out
        clear OA OB
        obtain ⟨pN, cN, hvN, _⟩ := ON.out.len
        obtain ⟨NN, hNN⟩ : ∃ NN, NN = (dig (a1 * 2 ^ x)).length := ⟨_, rfl⟩
        rw [← hNN] at hvN
        subst hvN
        clear hNN
        obtain ⟨pD, cD, hvD, _⟩ := OD.out.len
        obtain ⟨ND, hND⟩ : ∃ ND, ND = (dig (b1 * 2 ^ y)).length := ⟨_, rfl⟩
        rw [← hND] at hvD
        subst hvD
        clear hND
        have hlt : w.heap.size < w0.heap.size := by rw [Hw0.out]; simp
        have k0 := kkeep K0.out (b := w.heap.size) (o := 0) (v := .bool false) (by rw [Hw0.out]; simp [go_sem])
        have z0 : w4.frozen? ⟨w.heap.size, 0, none⟩ = false := by rw [Below.frozen K0.out hlt, Hw0.out]; simp [go_sem]
        have k1 := kkeep K0.out (b := w.heap.size) (o := 1) (v := .slice none 0 0) (by rw [Hw0.out]; simp [go_sem])
        have z1 : w4.frozen? ⟨w.heap.size, 1, none⟩ = false := by rw [Below.frozen K0.out hlt, Hw0.out]; simp [go_sem]
        have k2 := kkeep K0.out (b := w.heap.size) (o := 2) (v := .slice none 0 0) (by rw [Hw0.out]; simp [go_sem])
        have z2 : w4.frozen? ⟨w.heap.size, 2, none⟩ = false := by rw [Below.frozen K0.out hlt, Hw0.out]; simp [go_sem]
        have hk9 : Kp w w0 := by rw [Hw0.out]; exact (Kp.refl w).alloc _
        have hk0 : Kp w w4 := hk9.trans K0.out
        have HZ : Hid (Own (((w4.setCell ⟨w.heap.size, 0, none⟩ (.bool neg)).setCell ⟨w.heap.size, 1, none⟩ (.slice pN NN cN)).setCell ⟨w.heap.size, 2, none⟩ (.slice pD ND cD)) w.heap.size (.slice pN NN cN) (dig (a1 * 2 ^ x)) ∧ Own (((w4.setCell ⟨w.heap.size, 0, none⟩ (.bool neg)).setCell ⟨w.heap.size, 1, none⟩ (.slice pN NN cN)).setCell ⟨w.heap.size, 2, none⟩ (.slice pD ND cD)) w.heap.size (.slice pD ND cD) (dig (b1 * 2 ^ y)) ∧ Kp w (((w4.setCell ⟨w.heap.size, 0, none⟩ (.bool neg)).setCell ⟨w.heap.size, 1, none⟩ (.slice pN NN cN)).setCell ⟨w.heap.size, 2, none⟩ (.slice pD ND cD))) := ⟨((((ON.out.setOther hlt (.bool neg)).setOther hlt (.slice pN NN cN)).setOther hlt (.slice pD ND cD))).mono (Nat.le_of_lt hlt), ((((OD.out.setOther hlt (.bool neg)).setOther hlt (.slice pN NN cN)).setOther hlt (.slice pD ND cD))).mono (Nat.le_of_lt hlt), (((hk0.setCell (Nat.le_refl _) (.bool neg)).setCell (Nat.le_refl _) (.slice pN NN cN)).setCell (Nat.le_refl _) (.slice pD ND cD))⟩
        clear hk0 hlt hk9
        go_wp2
        exact bodyPost_ret (v := .agg #[.bool neg, .slice pN NN cN, .slice pD ND cD]) (by simp [results, Tryz.results71, go_sem] <;> simp [go_sem, *]) rfl ⟨_, _, a1 * 2 ^ x, b1 * 2 ^ y, neg, rfl, HZ.out.1, HZ.out.2.1, ⟨HFR.out, fun _ => rfl⟩, HZ.out.2.2⟩
end Go.Proofs.YteedfmghgkmofaaGreatDoor
namespace Go.Proofs.YteedfmghgkmofaaGreatDoor
open Go.RowKit
theorem rU_floor (p A B : Nat) (h : blen (A / B) ≤ p) : rU (-1) p A B = A / B := by
  have hE : rE p A B = 0 := by unfold rE; omega
  unfold rU rS rR
  rw [hE, Nat.pow_zero, Nat.mul_one, Nat.mul_one]
  have e : upw (-1) (A / B) (A % B) B = false := by unfold upw; simp
  rw [e]; simp
end Go.Proofs.YteedfmghgkmofaaGreatDoor
namespace Go.Proofs.YteedfmghgkmofaaGreatDoor
open Go.RowKit
theorem sgep0 (m : Nat) (h : m / 4503599627370496 = 0) : Fb.sgD m = m % 4503599627370496 ∧ Fb.epD m = -1074 := by
  have h1 : m < 4503599627370496 := by omega
  unfold Fb.sgD Fb.sgG Fb.epD Fb.epG
  rw [if_pos h1, if_pos h1, Nat.mod_eq_of_lt h1]
  exact ⟨rfl, rfl⟩
theorem sgep1 (m : Nat) (hm : m < 9218868437227405312) (h : m / 4503599627370496 ≠ 0) : Fb.sgD m = m % 4503599627370496 + 4503599627370496 ∧ Fb.epD m = ((m / 4503599627370496 : Nat) : Int) - 1 - 1074 := by
  have h1 : ¬ m < 4503599627370496 := by omega
  unfold Fb.sgD Fb.sgG Fb.epD Fb.epG
  rw [if_neg h1, if_pos hm, if_neg h1, if_pos hm]
  generalize m / 4503599627370496 = q
  exact ⟨by omega, by omega⟩
theorem small64 (f : Nat) (x : Int) (h : f < 18446744073709551616) (hx : x.natAbs ≤ 4096) : f < 18446744073709551616 ∧ blen f ≤ 64 ∧ x.natAbs ≤ 1048576 :=
  ⟨h, blen_lt f 64 (by rw [show (2 : Nat) ^ 64 = 18446744073709551616 from by decide]; exact h), by omega⟩
theorem fb_nums (eN fN f : Nat) (e1 x : Int) (b1 : eN < 2047) (b2 : fN < 4503599627370496) (h0 : eN ≠ 0) (hf : f = fN + 4503599627370496) (he1 : e1 = (eN : Int) - 1) (hx : x = e1 - 1074) :
    0 < (eN : Int) ∧ IntKind.u64.wrap ((fN : Int) + 4503599627370496) = (f : Int) ∧ wrap64 ((eN : Int) - 1) = e1 ∧ wrap64 (e1 - 1074) = x ∧ f < 18446744073709551616 ∧ x.natAbs ≤ 4096 := by
  refine ⟨by omega, ?_, ?_, ?_, by omega, by omega⟩
  · rw [IntKind.wrap_u64]; omega
  · rw [← he1]; exact w64x _ (by omega) (by omega)
  · rw [← hx]; exact w64x _ (by omega) (by omega)
theorem fb_e (eN : Nat) (b1 : eN < 2047) : IntKind.i64.wrap (eN : Int) = (eN : Int) ∧ wrap64 (eN : Int) = (eN : Int) := ⟨wi64 _ (by omega) (by omega), w64x _ (by omega) (by omega)⟩
theorem fb_bits (n : Bool) (m X Q eN fN : Nat) (hm : m < 9218868437227405312) (hX : X = Fb.wD n m) (hQ : Q = X / 4503599627370496) (he : eN = m / 4503599627370496) (hf : fN = m % 4503599627370496) :
    bits BinOp.and IntKind.u64 (Q : Int) 2047 = (eN : Int) ∧ bits BinOp.and IntKind.u64 (X : Int) 4503599627370495 = (fN : Int) ∧ (X : Int) / 9223372036854775808 = (if n = true then 1 else 0) ∧ eN < 2047 ∧ fN < 4503599627370496 ∧ X < 18446744073709551616 := by
  have hX9 : X < 18446744073709551616 := by rw [hX]; unfold Fb.wD; split <;> omega
  have e1 : Q % 2048 = eN := by rw [hQ, he, hX]; unfold Fb.wD; split <;> omega
  have e2 : X % 4503599627370496 = fN := by rw [hf, hX]; unfold Fb.wD; split <;> omega
  refine ⟨?_, ?_, ?_, by omega, by omega, hX9⟩
  · have h := u64_and_nat Q 2047 (by omega) (by decide)
    rw [show (2047 : Nat) = 2 ^ 11 - 1 from by decide, Nat.and_two_pow_sub_one_eq_mod, show (2 : Nat) ^ 11 = 2048 from by decide, e1] at h
    exact h
  · have h := u64_and_nat X 4503599627370495 hX9 (by decide)
    rw [show (4503599627370495 : Nat) = 2 ^ 52 - 1 from by decide, Nat.and_two_pow_sub_one_eq_mod, show (2 : Nat) ^ 52 = 4503599627370496 from by decide, e2] at h
    exact h
  · rw [hX]; unfold Fb.wD; cases n <;> simp <;> omega
end Go.Proofs.YteedfmghgkmofaaGreatDoor
namespace Go.Proofs.YteedfmghgkmofaaGreatDoor
open Go.RowKit
set_option maxRecDepth 20000 in
set_option maxHeartbeats 1000000 in
theorem rtimes_ (p q : Option Addr) (c d : Nat) (xs ys : List Int) (w : World) (hx : Arr w p xs) (hy : Arr w q ys) (hwx : Wd xs) (hwy : Wd ys) (lx : xs.length ≤ 16777216) (ly : ys.length ≤ 16777216) :
    Calls Tryz.prog 73 #[.slice p xs.length c, .slice q ys.length d] w fun e w' => ∃ v, e = .returned v ∧ Own w' w.heap.size v (dig (val xs * val ys)) ∧ Kp w w' := by
  have h1 := words_ p c xs w hx (by omega)
  have h2 := words_ q d ys w hy (by omega)
  have lS := tl_le xs
  have lT := tl_le ys
  have hvx := val_tl xs
  have hvy := val_tl ys
  obtain ⟨N, hN⟩ : ∃ N, N = xs.length := ⟨_, rfl⟩
  obtain ⟨M, hM⟩ : ∃ M, M = ys.length := ⟨_, rfl⟩
  obtain ⟨S, hS⟩ : ∃ S, S = tl xs := ⟨_, rfl⟩
  obtain ⟨T, hT⟩ : ∃ T, T = tl ys := ⟨_, rfl⟩
  rw [← hS] at h1 lS hvx
  rw [← hT] at h2 lT hvy
  have hmk : ∀ w : World, (Instr.makeSlice 41 (.int .i64 ((S : Int) + (T : Int))) (.int .i64 ((S : Int) + (T : Int)))).run Tryz.prog w = .ok (.slice (some ⟨w.heap.size, 0, none⟩) (S + T) (S + T)) (w.alloc (.cells (madeCells #[.int .u32 0] (S + T)) 100)) := by
    have := mk32 (S + T) (by omega)
    simpa using this
  have hk1 : Kp w (w.alloc (.cells (madeCells #[.int .u32 0] (S + T)) 100)) := (Kp.refl w).alloc _
  have hrz : Rw (w.alloc (.cells (madeCells #[.int .u32 0] (S + T)) 100)) w.heap.size (S + T) (List.replicate (S + T) 0) := World.rowIs.congr (World.rowIs_made w (.int .u32 0) (S + T) 100) (fun j _ => by rw [rep0_getD])
  obtain ⟨zs0, hz0⟩ : ∃ zs0, zs0 = List.replicate (S + T) (0 : Int) := ⟨_, rfl⟩
  have hzl0 : zs0.length = S + T := by rw [hz0]; simp
  have hwz0 : Wd zs0 := by rw [hz0]; exact Wd_rep0 _
  have hzz0 : ∀ j, zs0.getD j 0 = 0 := fun j => by rw [hz0]; exact rep0_getD _ _
  have hvz0 := val_zeros zs0 hzz0
  rw [← hz0] at hrz
  have HX : Hid (Arr w p xs ∧ Wd xs ∧ val (xs.take S) = val xs) := ⟨hx, hwx, hvx⟩
  have HY : Hid (Arr w q ys ∧ Wd ys ∧ val (ys.take T) = val ys) := ⟨hy, hwy, hvy⟩
  have HN : Hid (N = xs.length ∧ M = ys.length) := ⟨hN, hM⟩
  obtain ⟨g, hg⟩ : ∃ g, g = w.heap.size := ⟨_, rfl⟩
  rw [← hg] at hrz
  have HG : Hid (g = w.heap.size) := hg
  rw [← hN] at lx h1 lS ⊢
  rw [← hM] at ly h2 lT ⊢
  clear hx hy hwx hwy hN hM hz0 hS hT hvx hvy
  go_enter Tryz.func73, Tryz.ntmps73
  go_wp2_with fail
  refine h1.mono ?_; rintro e w' ⟨rfl, hw'⟩; obtain rfl := hw'.symm
  go_wp2_with fail
  refine h2.mono ?_; rintro e w' ⟨rfl, hw'⟩; obtain rfl := hw'.symm
  go_wp2
  rw [← hg]
  clear hmk hg h1 h2
  go_loopw [8] (fun i wr => ∃ (k : Nat) (zs : List Int), i = .int .i64 k ∧ k ≤ T ∧ Rw wr g (S + T) zs ∧ zs.length = S + T ∧ Wd zs ∧ val zs = val (ys.take k) * val xs ∧ (∀ j, k + S ≤ j → zs.getD j 0 = 0) ∧ Kp w wr) (fun i _ => T - (intOf i).toNat)
  case atStart => exact ⟨0, zs0, rfl, Nat.zero_le _, hrz, hzl0, hwz0, by rw [hvz0]; simp [val], fun j _ => hzz0 j, hk1⟩
  case round =>
    clear hrz hzl0 hwz0 hzz0 hvz0 hk1
    obtain ⟨k, zs, rfl, hk, hrow, hzl, hwz, hv, hzz, hkp⟩ := hrel
    obtain ⟨hN, hM⟩ := HN.out
    by_cases ck : k < T
    · obtain ⟨b, off, rfl, hc⟩ := HY.out.1.at (k := k) (by omega)
      have e0 := hc k (by omega)
      have e1 := kkeep hkp e0
      have wy := HY.out.2.1 k
      have hrp := row_prod ys k (val xs)
      obtain ⟨Y, hY⟩ : ∃ Y : Nat, (Y : Int) = ys.getD k 0 := ⟨(ys.getD k 0).toNat, by omega⟩
      rw [← hY] at e1 wy hrp
      rw [Int.toNat_natCast] at hrp
      have i0 : (0 : Int) ≤ (k : Int) := by omega
      have i1 : (k : Int) < (T : Int) := by omega
      have i1' : (k : Int) < (M : Int) := by omega
      by_cases cY : Y = 0
      · subst cY
        have hv2 : val zs = val (ys.take (k + 1)) * val xs := by rw [← hrp, hv]; simp
        have t1 : (((0 : Nat) : Int) == 0) = true := by simp
        clear hc e0 HX HY HN HG hN hM hY wy hrp hv
        go_wp2
        exact ⟨⟨k + 1, zs, by go_num, by omega, hrow, hzl, hwz, hv2, fun j hj => hzz j (by omega), hkp⟩, by simp [intOf]; omega⟩
      · have t1 : ((Y : Int) == 0) = false := by simp; omega
        have fY : IntKind.u64.wrap (Y : Int) = (Y : Int) := by rw [IntKind.wrap_u64]; omega
        have hY32 : Y < 4294967296 := by omega
        have HV : Hid (val zs + val xs * Y * 4294967296 ^ k = val (ys.take (k + 1)) * val xs ∧ (∀ j, k + S ≤ j → zs.getD j 0 = 0)) := ⟨by rw [hv]; exact hrp, hzz⟩
        clear hc e0 HY hN hM hY wy hrp hv hzz
        go_wp2
        clear t1 fY
        go_loopw [10, 11] (fun cc ii wq => ∃ (m C : Nat) (us : List Int), cc = .int .u64 (C : Int) ∧ ii = .int .i64 m ∧ m ≤ S ∧ Rw wq g (S + T) us ∧ us.length = S + T ∧ Wd us ∧ C < 4294967296 ∧ val us + C * 4294967296 ^ (k + m) = val zs + val (xs.take m) * Y * 4294967296 ^ k ∧ (∀ j, k + m ≤ j → us.getD j 0 = zs.getD j 0) ∧ Kp w wq) (fun _ i _ => S - (intOf i).toNat)
        case atStart => exact ⟨0, 0, zs, rfl, rfl, Nat.zero_le _, hrow, hzl, hwz, by omega, by simp [val], fun j _ => rfl, hkp⟩
        case round =>
          clear hrow hwz hkp e1
          obtain ⟨m, C, us, rfl, rfl, hm, hrow, hul, hwu, hC, hv, hsam, hkp⟩ := hrel
          obtain ⟨hN, hM⟩ := HN.out
          by_cases cm : m < S
          · obtain ⟨b', off', rfl, hc'⟩ := HX.out.1.at (k := m) (by omega)
            have e2 := kkeep hkp (hc' m (by omega))
            have e1 := World.rowIs.cell hrow (i := m + k) (by omega)
            have wx := HX.out.2.1 m
            have wz := hwu (m + k)
            obtain ⟨X, hX⟩ : ∃ X : Nat, (X : Int) = xs.getD m 0 := ⟨(xs.getD m 0).toNat, by omega⟩
            obtain ⟨Z0, hZ0⟩ : ∃ Z0 : Nat, (Z0 : Int) = us.getD (m + k) 0 := ⟨(us.getD (m + k) 0).toNat, by omega⟩
            rw [← hX] at e2
            rw [← hZ0] at e1
            have hmw := mul_word X Y C Z0 (by omega) hY32 hC (by omega)
            obtain ⟨P, hP⟩ : ∃ P, P = X * Y := ⟨_, rfl⟩
            rw [← hP] at hmw
            obtain ⟨Q, hQ⟩ : ∃ Q : Nat, Q = (Z0 : Int).toNat + ((P : Nat) : Int).toNat + C := ⟨_, rfl⟩
            rw [Nat.add_comm m k] at hZ0
            have hst := sum_step us (k + m) C Q _ (Z0 : Int) (P : Int) (by omega) hZ0.symm hQ hv
            simp only [Int.toNat_natCast] at hQ hst
            have hg2 := mul_grow xs Y k m
            rw [← hX, Int.toNat_natCast, ← hP] at hg2
            rw [Nat.add_assoc (val zs), ← hg2, Nat.add_assoc k m 1] at hst
            have f1 : IntKind.u64.wrap (X : Int) = (X : Int) := by rw [IntKind.wrap_u64]; omega
            have f2 : IntKind.u64.wrap ((X : Int) * (Y : Int)) = (P : Int) := by
              have : (X : Int) * (Y : Int) = (P : Int) := by rw [hP]; exact (Int.natCast_mul X Y).symm
              rw [this, IntKind.wrap_u64]; omega
            have f3 : IntKind.u64.wrap (Z0 : Int) = (Z0 : Int) := by rw [IntKind.wrap_u64]; omega
            have f4 : IntKind.u64.wrap ((C : Int) + (Z0 : Int)) = (C : Int) + (Z0 : Int) := by rw [IntKind.wrap_u64]; omega
            have f5 : IntKind.u64.wrap ((C : Int) + (Z0 : Int) + (P : Int)) = (Q : Int) := by rw [IntKind.wrap_u64]; omega
            have f8 := and32 Q (by omega)
            obtain ⟨Z, hZ⟩ : ∃ Z : Nat, Z = Q % 4294967296 := ⟨_, rfl⟩
            obtain ⟨C', hC2⟩ : ∃ C' : Nat, C' = Q / 4294967296 := ⟨_, rfl⟩
            rw [← hZ] at f8
            have f6 : IntKind.u32.wrap (Z : Int) = (Z : Int) := by rw [IntKind.wrap_u32]; omega
            have f7 : (Q : Int) / 4294967296 = (C' : Int) := by omega
            rw [← hZ, ← hC2] at hst
            have hC' : C' < 4294967296 := by omega
            have hw2 : Wd (us.set (m + k) (Z : Int)) := hwu.set (m + k) Z (by omega)
            have hl2 : (us.set (m + k) (Z : Int)).length = S + T := by rw [List.length_set]; exact hul
            have hsam2 : ∀ j, k + (m + 1) ≤ j → (us.set (m + k) (Z : Int)).getD j 0 = zs.getD j 0 := fun j h1 => by
              rw [← hsam j (by omega)]; simp [List.getD, show ¬ m + k = j from by omega]
            have ekm : k + m = m + k := Nat.add_comm k m
            rw [ekm] at hst
            clear ekm
            have hik : m + k < us.length := by omega
            have hik2 : m + k < S + T := by omega
            have j0 : (0 : Int) ≤ (m : Int) := by omega
            have j1 : (m : Int) < (S : Int) := by omega
            have j2 : (m : Int) < (N : Int) := by omega
            have j3 : (0 : Int) ≤ (m : Int) + (k : Int) := by omega
            have j4 : (m : Int) + (k : Int) < (S : Int) + (T : Int) := by omega
            have hgw : w.heap.size ≤ g := by rw [HG.out]; exact Nat.le_refl _
            clear hc' HX HN HG hN hM hX hZ0 hZ hC2 hQ hv hP hg2 wx wz hwu hC hsam hul hmw HV hzl
            go_wp2
            refine wp_region_kp (by kernel_rfl) (by kernel_rfl) (fun ι _ G hG hall => ?_)
            have c0 : ∀ n, (G n).cell? ⟨g, m + k, none⟩ = some (.int .u32 (Z0 : Int)) := fun n => kkeep (hG n) e1
            have c1 : ∀ n, (G n).cell? ⟨b', off' + m, none⟩ = some (.int .u32 (X : Int)) := fun n => kkeep (hG n) e2
            repeat (go_big_quiet_step (fail))
            refine wpQuiet_nil ?_
            rintro _ ⟨nq, rfl⟩
            have gq := hG nq
            replace hrow := hrow.grown gq
            have e3 := World.rowIs.cell hrow (i := m + k) hik2
            have e4 := World.rowIs.frozen hrow (m + k)
            have hR := hrow.set (m + k) (Z : Int) hik
            have hK := (hkp.trans gq).setCell (p := ⟨g, m + k, none⟩) hgw (.int .u32 (Z : Int))
            clear c0 c1 hall hG gq e1 e2 hrow hkp
            go_wp2
            exact ⟨⟨m + 1, C', us.set (m + k) (Z : Int), by go_num, by go_num, by omega, hR, hl2, hw2, hC', hst, hsam2, hK⟩, by simp [intOf]; omega⟩
          · have hmS : m = S := by omega
            subst hmS
            have hvx := HX.out.2.2
            rw [hvx] at hv
            obtain ⟨hV1, hV2⟩ := HV.out
            have hu0 : us.getD (k + m) 0 = 0 := by rw [hsam _ (Nat.le_refl _)]; exact hV2 _ (Nat.le_refl _)
            have hvs := val_set us (k + m) (C : Int) (by omega)
            rw [hu0, Int.toNat_natCast, hv, hV1] at hvs
            have hv3 : val (us.set (k + m) (C : Int)) = val (ys.take (k + 1)) * val xs := by simpa using hvs
            have hgw : w.heap.size ≤ g := by rw [HG.out]; exact Nat.le_refl _
            have hR := hrow.set (k + m) (C : Int) (by omega)
            have hK : Kp w (wr.setCell ⟨g, k + m, none⟩ (.int .u32 (C : Int))) := hkp.setCell hgw _
            have hw3 : Wd (us.set (k + m) (C : Int)) := hwu.set _ _ (by omega)
            have hl3 : (us.set (k + m) (C : Int)).length = m + T := by rw [List.length_set]; exact hul
            have hz3 : ∀ j, k + 1 + m ≤ j → (us.set (k + m) (C : Int)).getD j 0 = 0 := fun j hj => by
              have e1 : (us.set (k + m) (C : Int)).getD j 0 = us.getD j 0 := by simp [List.getD, show ¬ k + m = j from by omega]
              rw [e1, hsam j (by omega)]
              exact hV2 j (by omega)
            have e3 := World.rowIs.cell hrow (i := k + m) (by omega)
            have e4 := World.rowIs.frozen hrow (k + m)
            have f6 : IntKind.u32.wrap (C : Int) = (C : Int) := by rw [IntKind.wrap_u32]; omega
            have i2 : ¬ ((m : Int) < (m : Int)) := by omega
            have j3 : (0 : Int) ≤ (k : Int) + (m : Int) := by omega
            have j4 : (k : Int) + (m : Int) < (m : Int) + (T : Int) := by omega
            clear HX HN HG hN hM hv hvs hsam hkp hrow HV hV1 hV2 hvx hwu hul hu0 hC cm hm hzl
            go_wp2
            exact ⟨⟨k + 1, us.set (k + m) (C : Int), by go_num, by omega, hR, hl3, hw3, hv3, hz3, hK⟩, by simp [intOf]; omega⟩
    · have hkN : k = T := by omega
      subst hkN
      have hvy := HY.out.2.2
      rw [hvy] at hv
      have hA := hrow.arr (S + k) (Nat.le_refl _) (by omega)
      rw [List.take_of_length_le (by omega)] at hA
      have hno := rnorm_ (some ⟨g, 0, none⟩) (S + k) zs wr hA (by omega)
      rw [nz_dig zs hwz, hv, hzl, Nat.mul_comm] at hno
      have hsz := hkp.size
      have i2 : ¬ ((k : Int) < (k : Int)) := by omega
      clear hA hrow hzl hwz hv HX HY HN HG hN hM hzz hvy hk ck
      go_wp2_with fail
      refine hno.mono ?_
      rintro e w2 ⟨v2, rfl, hO2, hk2⟩
      clear hno
      go_wp2
      exact bodyPost_ret (v := v2) (by simp [results, Tryz.results73, go_sem] <;> simp only [*]) rfl ⟨v2, rfl, hO2.mono hsz, hkp.trans hk2⟩
end Go.Proofs.YteedfmghgkmofaaGreatDoor
namespace Go.Proofs.YteedfmghgkmofaaGreatDoor
open Go.RowKit
set_option maxRecDepth 20000 in
set_option maxHeartbeats 3000000 in
theorem rminus_ (p q : Option Addr) (c d : Nat) (xs ys : List Int) (w : World) (hx : Arr w p xs) (hy : Arr w q ys) (hwx : Wd xs) (hwy : Wd ys) (lx : xs.length < 1099511627776) (hl : ys.length ≤ xs.length) (hle : val ys ≤ val xs) :
    Calls Tryz.prog 76 #[.slice p xs.length c, .slice q ys.length d] w fun e w' => ∃ v, e = .returned v ∧ Own w' w.heap.size v (dig (val xs - val ys)) ∧ Kp w w' := by
  obtain ⟨N, hN⟩ : ∃ N, N = xs.length := ⟨_, rfl⟩
  obtain ⟨M, hM⟩ : ∃ M, M = ys.length := ⟨_, rfl⟩
  rw [← hN] at lx hl ⊢
  rw [← hM] at hl ⊢
  have HX : Hid (Arr w p xs) := hx
  have HY : Hid (Arr w q ys) := hy
  have HW : Hid (Wd xs ∧ Wd ys ∧ val ys ≤ val xs) := ⟨hwx, hwy, hle⟩
  have HN : Hid (N = xs.length ∧ M = ys.length ∧ N < 1099511627776 ∧ M ≤ N) := ⟨hN, hM, lx, hl⟩
  obtain ⟨i0, hi0, hi1, hi2, hi3⟩ := inf32p
  clear hN hM hx hy hwx hwy lx hl hle
  go_enter Tryz.func76, Tryz.ntmps76
  go_wp2
  go_loopw [5, 6, 7] (fun a cc i wr => ∃ (v : Value) (k C : Nat) (L : List Int), v = a ∧ cc = .int .u64 C ∧ i = .int .i64 k ∧ Own wr w.heap.size v L ∧ Kp w wr ∧ L.length = k ∧ Wd L ∧ C ≤ 1 ∧ val L + val (ys.take k) = val (xs.take k) + C * 4294967296 ^ k ∧ k ≤ N) (fun _ _ i _ => N - (intOf i).toNat)
  case atStart => exact ⟨_, 0, 0, [], rfl, rfl, rfl, Own.nil _ _, Kp.refl _, rfl, Wd.nil, by omega, by simp [val], by omega⟩
  case round =>
    obtain ⟨v, k, C, L, rfl, rfl, rfl, hown, hkp, hL, hw, hC, hv, hk⟩ := hrel
    obtain ⟨hN, hM, lx, hl⟩ := HN.out
    by_cases ca : k < N
    · by_cases cb : k < M
      · skip
        obtain ⟨b, off, rfl, hc⟩ := HX.out.at (k := k) (by omega)
        have e1 := kkeep hkp (hc k (by omega))
        obtain ⟨b', off', rfl, hc'⟩ := HY.out.at (k := k) (by omega)
        have e2 := kkeep hkp (hc' k (by omega))
        have wx := HW.out.1 k
        have wy := HW.out.2.1 k
        obtain ⟨X, hX⟩ : ∃ X, X = xs.getD k 0 := ⟨_, rfl⟩
        obtain ⟨Y, hY⟩ : ∃ Y, Y = ys.getD k 0 := ⟨_, rfl⟩
        have hst := fun (C' Z : Nat) h => minus_step L xs ys k C C' Z hL h hv
        rw [← hX, ← hY] at hst
        rw [← hX] at wx e1
        rw [← hY] at wy e2
        have f1 : IntKind.u64.wrap X = X := by rw [IntKind.wrap_u64]; omega
        obtain ⟨T, hT⟩ : ∃ T : Int, T = Y + (C : Int) := ⟨_, rfl⟩
        have f2 : IntKind.u64.wrap Y = Y := by rw [IntKind.wrap_u64]; omega
        have f3 : IntKind.u64.wrap ((C : Int) + Y) = T := by rw [IntKind.wrap_u64]; omega
        by_cases ct : X < T
        · skip
          obtain ⟨Z, hZ⟩ : ∃ Z : Nat, Z = (X + 4294967296 - T).toNat := ⟨_, rfl⟩
          have f4 : IntKind.u64.wrap (X + 4294967296) = X + 4294967296 := by rw [IntKind.wrap_u64]; omega
          have f5 : IntKind.u64.wrap (X + 4294967296 - T) = (Z : Int) := by rw [IntKind.wrap_u64]; omega
          have hs2 := hst 1 Z (by omega)
          have f6 : IntKind.u32.wrap (Z : Int) = (Z : Int) := by rw [IntKind.wrap_u32]; omega
          have hWL : Wd (L ++ [(Z : Int)]) := hw.append (Wd.one (by omega))
          have hob := own_block hown
          have hown' : wr.ownsRow w.heap.size 100 1 v k (L.map (Value.int .u32)) := by rw [← hL]; exact hown
          have hsz := hkp.size
          have hkb : k < 1099511627776 := by omega
          have j0 : (0 : Int) ≤ (k : Int) := by omega
          have j1 : (k : Int) < (N : Int) := by omega
          have j2 : ((k : Int) < (M : Int)) := by omega
          clear ca cb
          clear hc hc' HX HY HW HN hN hM hX hY hv hZ hT hown wx wy hw hC hst
          go_wp2_with (first | (at_builtin; refine wpList_append_own _ rfl _ _ 41 rfl w.heap.size 100 i0 (.int .u32 0) 1 4 Tryz.underlying41 hi0 hi1 hi2 hi3 rfl (by decide) _ _ _ rfl (hown'.alloc _) ⟨wr.heap.size, 0, none⟩ 1 1 [.int .u32 (Z : Int)] rfl rfl ?c1f0 ?c2f0 ?c3f0 ?c4f0 ?c5f0 ?_))
          try case c1f0 =>
            intro j' u hj'
            match j', hj' with
            | 0, hj' => simp at hj'; subst hj'; simp [Addr.add]
          case c2f0 => first | rfl | (intro u hu; simp at hu; subst hu; rfl)
          case c3f0 => unfold maxLen; omega
          case c4f0 => omega
          case c5f0 => first | omega | (simp; omega)
          intro v' w1 hown2 hgrow _
          have hO : Own w1 w.heap.size v' (L ++ [(Z : Int)]) := by refine Own.push ?_; rw [hL]; exact hown2
          have hK2 : Kp w w1 := (hkp.alloc _).grown hgrow hob
          clear hown2 hgrow hown' hkp hob hsz
          go_wp2
          exact ⟨⟨_, k + 1, 1, _, rfl, rfl, by go_num, hO, hK2, by simp [hL], hWL, by omega, hs2, by omega⟩, by simp [intOf]; omega⟩
        · skip
          obtain ⟨Z, hZ⟩ : ∃ Z : Nat, Z = (X - T).toNat := ⟨_, rfl⟩
          have f5 : IntKind.u64.wrap (X - T) = (Z : Int) := by rw [IntKind.wrap_u64]; omega
          have hs2 := hst 0 Z (by omega)
          have f6 : IntKind.u32.wrap (Z : Int) = (Z : Int) := by rw [IntKind.wrap_u32]; omega
          have hWL : Wd (L ++ [(Z : Int)]) := hw.append (Wd.one (by omega))
          have hob := own_block hown
          have hown' : wr.ownsRow w.heap.size 100 1 v k (L.map (Value.int .u32)) := by rw [← hL]; exact hown
          have hsz := hkp.size
          have hkb : k < 1099511627776 := by omega
          have j0 : (0 : Int) ≤ (k : Int) := by omega
          have j1 : (k : Int) < (N : Int) := by omega
          have j2 : ((k : Int) < (M : Int)) := by omega
          clear ca cb
          clear hc hc' HX HY HW HN hN hM hX hY hv hZ hT hown wx wy hw hC hst
          go_wp2_with (first | (at_builtin; refine wpList_append_own _ rfl _ _ 41 rfl w.heap.size 100 i0 (.int .u32 0) 1 4 Tryz.underlying41 hi0 hi1 hi2 hi3 rfl (by decide) _ _ _ rfl (hown'.alloc _) ⟨wr.heap.size, 0, none⟩ 1 1 [.int .u32 (Z : Int)] rfl rfl ?c1f1 ?c2f1 ?c3f1 ?c4f1 ?c5f1 ?_))
          try case c1f1 =>
            intro j' u hj'
            match j', hj' with
            | 0, hj' => simp at hj'; subst hj'; simp [Addr.add]
          case c2f1 => first | rfl | (intro u hu; simp at hu; subst hu; rfl)
          case c3f1 => unfold maxLen; omega
          case c4f1 => omega
          case c5f1 => first | omega | (simp; omega)
          intro v' w1 hown2 hgrow _
          have hO : Own w1 w.heap.size v' (L ++ [(Z : Int)]) := by refine Own.push ?_; rw [hL]; exact hown2
          have hK2 : Kp w w1 := (hkp.alloc _).grown hgrow hob
          clear hown2 hgrow hown' hkp hob hsz
          go_wp2
          exact ⟨⟨_, k + 1, 0, _, rfl, rfl, by go_num, hO, hK2, by simp [hL], hWL, by omega, hs2, by omega⟩, by simp [intOf]; omega⟩
      · skip
        obtain ⟨b, off, rfl, hc⟩ := HX.out.at (k := k) (by omega)
        have e1 := kkeep hkp (hc k (by omega))
        have wx := HW.out.1 k
        have wy := HW.out.2.1 k
        have hy0 : ys.getD k 0 = 0 := getD_out ys k (by omega)
        obtain ⟨X, hX⟩ : ∃ X, X = xs.getD k 0 := ⟨_, rfl⟩
        obtain ⟨Y, hY⟩ : ∃ Y, Y = ys.getD k 0 := ⟨_, rfl⟩
        have hst := fun (C' Z : Nat) h => minus_step L xs ys k C C' Z hL h hv
        rw [← hX, ← hY] at hst
        rw [← hX] at wx e1
        rw [← hY] at wy hy0
        have f1 : IntKind.u64.wrap X = X := by rw [IntKind.wrap_u64]; omega
        by_cases ct : X < (C : Int)
        · skip
          obtain ⟨Z, hZ⟩ : ∃ Z : Nat, Z = (X + 4294967296 - (C : Int)).toNat := ⟨_, rfl⟩
          have f4 : IntKind.u64.wrap (X + 4294967296) = X + 4294967296 := by rw [IntKind.wrap_u64]; omega
          have f5 : IntKind.u64.wrap (X + 4294967296 - (C : Int)) = (Z : Int) := by rw [IntKind.wrap_u64]; omega
          have hs2 := hst 1 Z (by omega)
          have f6 : IntKind.u32.wrap (Z : Int) = (Z : Int) := by rw [IntKind.wrap_u32]; omega
          have hWL : Wd (L ++ [(Z : Int)]) := hw.append (Wd.one (by omega))
          have hob := own_block hown
          have hown' : wr.ownsRow w.heap.size 100 1 v k (L.map (Value.int .u32)) := by rw [← hL]; exact hown
          have hsz := hkp.size
          have hkb : k < 1099511627776 := by omega
          have j0 : (0 : Int) ≤ (k : Int) := by omega
          have j1 : (k : Int) < (N : Int) := by omega
          have j2 : ¬ ((k : Int) < (M : Int)) := by omega
          clear ca cb
          clear hc hy0 HX HY HW HN hN hM hX hY hv hZ hown wx wy hw hC hst
          go_wp2_with (first | (at_builtin; refine wpList_append_own _ rfl _ _ 41 rfl w.heap.size 100 i0 (.int .u32 0) 1 4 Tryz.underlying41 hi0 hi1 hi2 hi3 rfl (by decide) _ _ _ rfl (hown'.alloc _) ⟨wr.heap.size, 0, none⟩ 1 1 [.int .u32 (Z : Int)] rfl rfl ?c1g0 ?c2g0 ?c3g0 ?c4g0 ?c5g0 ?_))
          try case c1g0 =>
            intro j' u hj'
            match j', hj' with
            | 0, hj' => simp at hj'; subst hj'; simp [Addr.add]
          case c2g0 => first | rfl | (intro u hu; simp at hu; subst hu; rfl)
          case c3g0 => unfold maxLen; omega
          case c4g0 => omega
          case c5g0 => first | omega | (simp; omega)
          intro v' w1 hown2 hgrow _
          have hO : Own w1 w.heap.size v' (L ++ [(Z : Int)]) := by refine Own.push ?_; rw [hL]; exact hown2
          have hK2 : Kp w w1 := (hkp.alloc _).grown hgrow hob
          clear hown2 hgrow hown' hkp hob hsz
          go_wp2
          exact ⟨⟨_, k + 1, 1, _, rfl, rfl, by go_num, hO, hK2, by simp [hL], hWL, by omega, hs2, by omega⟩, by simp [intOf]; omega⟩
        · skip
          obtain ⟨Z, hZ⟩ : ∃ Z : Nat, Z = (X - (C : Int)).toNat := ⟨_, rfl⟩
          have f5 : IntKind.u64.wrap (X - (C : Int)) = (Z : Int) := by rw [IntKind.wrap_u64]; omega
          have hs2 := hst 0 Z (by omega)
          have f6 : IntKind.u32.wrap (Z : Int) = (Z : Int) := by rw [IntKind.wrap_u32]; omega
          have hWL : Wd (L ++ [(Z : Int)]) := hw.append (Wd.one (by omega))
          have hob := own_block hown
          have hown' : wr.ownsRow w.heap.size 100 1 v k (L.map (Value.int .u32)) := by rw [← hL]; exact hown
          have hsz := hkp.size
          have hkb : k < 1099511627776 := by omega
          have j0 : (0 : Int) ≤ (k : Int) := by omega
          have j1 : (k : Int) < (N : Int) := by omega
          have j2 : ¬ ((k : Int) < (M : Int)) := by omega
          clear ca cb
          clear hc hy0 HX HY HW HN hN hM hX hY hv hZ hown wx wy hw hC hst
          go_wp2_with (first | (at_builtin; refine wpList_append_own _ rfl _ _ 41 rfl w.heap.size 100 i0 (.int .u32 0) 1 4 Tryz.underlying41 hi0 hi1 hi2 hi3 rfl (by decide) _ _ _ rfl (hown'.alloc _) ⟨wr.heap.size, 0, none⟩ 1 1 [.int .u32 (Z : Int)] rfl rfl ?c1g1 ?c2g1 ?c3g1 ?c4g1 ?c5g1 ?_))
          try case c1g1 =>
            intro j' u hj'
            match j', hj' with
            | 0, hj' => simp at hj'; subst hj'; simp [Addr.add]
          case c2g1 => first | rfl | (intro u hu; simp at hu; subst hu; rfl)
          case c3g1 => unfold maxLen; omega
          case c4g1 => omega
          case c5g1 => first | omega | (simp; omega)
          intro v' w1 hown2 hgrow _
          have hO : Own w1 w.heap.size v' (L ++ [(Z : Int)]) := by refine Own.push ?_; rw [hL]; exact hown2
          have hK2 : Kp w w1 := (hkp.alloc _).grown hgrow hob
          clear hown2 hgrow hown' hkp hob hsz
          go_wp2
          exact ⟨⟨_, k + 1, 0, _, rfl, rfl, by go_num, hO, hK2, by simp [hL], hWL, by omega, hs2, by omega⟩, by simp [intOf]; omega⟩
    · have hkN : k = N := by omega
      have hv2 : val L = val xs - val ys := by
        rw [List.take_of_length_le (by omega), List.take_of_length_le (by omega)] at hv
        have := minus_end L xs ys C k hL hw HW.out.2.2 hv hC
        subst this
        omega
      have hLl : L.length ≤ 1099511627776 := by omega
      obtain ⟨p', c', rfl, hA, _⟩ := hown.arr
      have hno := rnorm_ p' c' L wr hA hLl
      rw [nz_dig L hw, hv2] at hno
      obtain ⟨D, hD⟩ : ∃ D, D = L.length := ⟨_, rfl⟩
      rw [← hD] at hno ⊢
      have i2 : ¬ ((k : Int) < (N : Int)) := by omega
      clear HX HY HW HN hN hM hv hown hw hC hA hv2 hL hLl hD hkN ca lx hl
      go_wp2_with fail
      refine hno.mono ?_
      rintro e w2 ⟨v2, rfl, hO2, hk2⟩
      clear hno
      go_wp2
      exact bodyPost_ret (v := v2) (by simp [results, Tryz.results76, go_sem] <;> simp only [*]) rfl ⟨v2, rfl, hO2.mono hkp.size, hkp.trans hk2⟩
end Go.Proofs.YteedfmghgkmofaaGreatDoor
namespace Go.Proofs.YteedfmghgkmofaaGreatDoor
open Go.RowKit
set_option maxRecDepth 20000 in
set_option maxHeartbeats 400000 in
theorem timesR (v1 v2 : Value) (a b : Nat) (w : World) (h1 : Ls w v1 (dig a)) (h2 : Ls w v2 (dig b)) (l1 : len32 a ≤ 16384) (l2 : len32 b ≤ 16384) :
    Calls Tryz.prog 73 #[v1, v2] w fun e w' => ∃ p c, e = .returned (.slice p (dig (a * b)).length c) ∧ Arr w' p (dig (a * b)) ∧ (dig (a * b)).length ≤ c ∧ Kp w w' := by
  obtain ⟨p, c, rfl, hA, hc⟩ := h1
  obtain ⟨q, d, rfl, hB, hd⟩ := h2
  have h := rtimes_ p q c d (dig a) (dig b) w hA hB (Wd_dig a) (Wd_dig b) (by change len32 a ≤ _; omega) (by change len32 b ≤ _; omega)
  rw [val_dig, val_dig] at h
  refine h.mono ?_
  rintro e w' ⟨v, h1, h2, h3⟩
  obtain ⟨p, c, rfl, h4, h5⟩ := h2.arr
  exact ⟨p, c, h1, h4, h5, h3⟩
set_option maxRecDepth 20000 in
set_option maxHeartbeats 400000 in
theorem plusR (v1 v2 : Value) (a b : Nat) (w : World) (h1 : Ls w v1 (dig a)) (h2 : Ls w v2 (dig b)) (l1 : len32 a ≤ 32768) (l2 : len32 b ≤ 32768) :
    Calls Tryz.prog 74 #[v1, v2] w fun e w' => ∃ p c, e = .returned (.slice p (dig (a + b)).length c) ∧ Arr w' p (dig (a + b)) ∧ (dig (a + b)).length ≤ c ∧ Kp w w' := by
  obtain ⟨p, c, rfl, hA, hc⟩ := h1
  obtain ⟨q, d, rfl, hB, hd⟩ := h2
  have h := rplus_ p q c d (dig a) (dig b) w hA hB (Wd_dig a) (Wd_dig b) (by change len32 a < _; omega) (by change len32 b < _; omega)
  refine h.mono ?_
  rintro e w' ⟨v, L, h1, h2, h3, h4, _, h5⟩
  rw [val_dig, val_dig] at h4
  rw [nz_dig L h3, h4] at h2
  obtain ⟨p, c, rfl, h6, h7⟩ := h2.arr
  exact ⟨p, c, h1, h6, h7, h5⟩
set_option maxRecDepth 20000 in
set_option maxHeartbeats 400000 in
theorem minusR (v1 v2 : Value) (a b : Nat) (w : World) (h1 : Ls w v1 (dig a)) (h2 : Ls w v2 (dig b)) (l1 : len32 a ≤ 32768) (hle : b ≤ a) :
    Calls Tryz.prog 76 #[v1, v2] w fun e w' => ∃ p c, e = .returned (.slice p (dig (a - b)).length c) ∧ Arr w' p (dig (a - b)) ∧ (dig (a - b)).length ≤ c ∧ Kp w w' := by
  obtain ⟨p, c, rfl, hA, hc⟩ := h1
  obtain ⟨q, d, rfl, hB, hd⟩ := h2
  have h := rminus_ p q c d (dig a) (dig b) w hA hB (Wd_dig a) (Wd_dig b) (by change len32 a < _; omega) (by exact len32_mono hle) (by rw [val_dig, val_dig]; exact hle)
  rw [val_dig, val_dig] at h
  refine h.mono ?_
  rintro e w' ⟨v, h1, h2, h3⟩
  obtain ⟨p, c, rfl, h4, h5⟩ := h2.arr
  exact ⟨p, c, h1, h4, h5, h3⟩
end Go.Proofs.YteedfmghgkmofaaGreatDoor
namespace Go.Proofs.YteedfmghgkmofaaGreatDoor
open Go.RowKit
set_option maxRecDepth 20000 in
set_option maxHeartbeats 1000000 in
theorem rcmpL_ (S T9 : Int) (s : Bool) (p : Option Addr) (l c : Nat) (q : Option Addr) (k d : Nat) (s2 : Bool) (p2 : Option Addr) (l2 c2 : Nat) (q2 : Option Addr) (k2 d2 : Nat) (w : World) (hs1 : ∀ W : World, Kp w W → Calls Tryz.prog 41 #[.agg #[.bool s, .slice p l c, .slice q k d]] W fun e w' => e = .returned (.int .i64 S) ∧ Kp W w') (hs2 : ∀ W : World, Kp w W → Calls Tryz.prog 41 #[.agg #[.bool s2, .slice p2 l2 c2, .slice q2 k2 d2]] W fun e w' => e = .returned (.int .i64 T9) ∧ Kp W w') (t1 : S < T9) : Calls Tryz.prog 78 #[.agg #[.bool s, .slice p l c, .slice q k d], .agg #[.bool s2, .slice p2 l2 c2, .slice q2 k2 d2]] w fun e w' => e = .returned (.int .i64 (-1)) ∧ Kp w w' := by
  go_enter Tryz.func78, Tryz.ntmps78
  go_wp2_with (first | (go_at_call_of 41 (Value.slice p l c); refine (hs1 _ ?q0).mono ?_; (case q0 => exact ((Kp.refl w).alloc _).alloc _); rintro e wa ⟨rfl, ga⟩; have ka : Kp w wa := Kp.trans (((Kp.refl w).alloc _).alloc _) ga; have x0 := kkeep ga (b := w.heap.size) (o := 0) (v := .bool s) (by simp [go_sem]); have x1 := kkeep ga (b := w.heap.size) (o := 1) (v := .slice p l c) (by simp [go_sem]); have x2 := kkeep ga (b := w.heap.size) (o := 2) (v := .slice q k d) (by simp [go_sem]); have x3 := kkeep ga (b := w.heap.size + 1) (o := 0) (v := .bool s2) (by simp [go_sem]); have x4 := kkeep ga (b := w.heap.size + 1) (o := 1) (v := .slice p2 l2 c2) (by simp [go_sem]); have x5 := kkeep ga (b := w.heap.size + 1) (o := 2) (v := .slice q2 k2 d2) (by simp [go_sem])) | (go_at_call_of 41 (Value.slice p2 l2 c2); refine (hs2 _ ?q0).mono ?_; (case q0 => exact ka); rintro e wb ⟨rfl, gb⟩; have kb : Kp w wb := Kp.trans ka gb; have y0 := kkeep gb x0; have y1 := kkeep gb x1; have y2 := kkeep gb x2; have y3 := kkeep gb x3; have y4 := kkeep gb x4; have y5 := kkeep gb x5))
  exact bodyPost_ret (v := .int .i64 (-1)) (by simp [results, Tryz.results78, go_sem]) rfl ⟨rfl, kb⟩
set_option maxRecDepth 20000 in
set_option maxHeartbeats 1000000 in
theorem rcmpG_ (S T9 : Int) (s : Bool) (p : Option Addr) (l c : Nat) (q : Option Addr) (k d : Nat) (s2 : Bool) (p2 : Option Addr) (l2 c2 : Nat) (q2 : Option Addr) (k2 d2 : Nat) (w : World) (hs1 : ∀ W : World, Kp w W → Calls Tryz.prog 41 #[.agg #[.bool s, .slice p l c, .slice q k d]] W fun e w' => e = .returned (.int .i64 S) ∧ Kp W w') (hs2 : ∀ W : World, Kp w W → Calls Tryz.prog 41 #[.agg #[.bool s2, .slice p2 l2 c2, .slice q2 k2 d2]] W fun e w' => e = .returned (.int .i64 T9) ∧ Kp W w') (t2 : T9 < S) : Calls Tryz.prog 78 #[.agg #[.bool s, .slice p l c, .slice q k d], .agg #[.bool s2, .slice p2 l2 c2, .slice q2 k2 d2]] w fun e w' => e = .returned (.int .i64 1) ∧ Kp w w' := by
  go_enter Tryz.func78, Tryz.ntmps78
  go_wp2_with (first | (go_at_call_of 41 (Value.slice p l c); refine (hs1 _ ?q0).mono ?_; (case q0 => exact ((Kp.refl w).alloc _).alloc _); rintro e wa ⟨rfl, ga⟩; have ka : Kp w wa := Kp.trans (((Kp.refl w).alloc _).alloc _) ga; have x0 := kkeep ga (b := w.heap.size) (o := 0) (v := .bool s) (by simp [go_sem]); have x1 := kkeep ga (b := w.heap.size) (o := 1) (v := .slice p l c) (by simp [go_sem]); have x2 := kkeep ga (b := w.heap.size) (o := 2) (v := .slice q k d) (by simp [go_sem]); have x3 := kkeep ga (b := w.heap.size + 1) (o := 0) (v := .bool s2) (by simp [go_sem]); have x4 := kkeep ga (b := w.heap.size + 1) (o := 1) (v := .slice p2 l2 c2) (by simp [go_sem]); have x5 := kkeep ga (b := w.heap.size + 1) (o := 2) (v := .slice q2 k2 d2) (by simp [go_sem])) | (go_at_call_of 41 (Value.slice p2 l2 c2); refine (hs2 _ ?q0).mono ?_; (case q0 => exact ka); rintro e wb ⟨rfl, gb⟩; have kb : Kp w wb := Kp.trans ka gb; have y0 := kkeep gb x0; have y1 := kkeep gb x1; have y2 := kkeep gb x2; have y3 := kkeep gb x3; have y4 := kkeep gb x4; have y5 := kkeep gb x5))
  exact bodyPost_ret (v := .int .i64 1) (by simp [results, Tryz.results78, go_sem]) rfl ⟨rfl, kb⟩
set_option maxRecDepth 20000 in
set_option maxHeartbeats 1000000 in
theorem rcmpZ_ (S C9 : Int) (P1 P2 : World → Value → Prop) (s : Bool) (p : Option Addr) (l c : Nat) (q : Option Addr) (k d : Nat) (s2 : Bool) (p2 : Option Addr) (l2 c2 : Nat) (q2 : Option Addr) (k2 d2 : Nat) (w : World) (hk1 : ∀ (W W' : World) (v : Value), Kp W W' → P1 W v → P1 W' v) (hs1 : ∀ W : World, Kp w W → Calls Tryz.prog 41 #[.agg #[.bool s, .slice p l c, .slice q k d]] W fun e w' => e = .returned (.int .i64 S) ∧ Kp W w') (hs2 : ∀ W : World, Kp w W → Calls Tryz.prog 41 #[.agg #[.bool s2, .slice p2 l2 c2, .slice q2 k2 d2]] W fun e w' => e = .returned (.int .i64 S) ∧ Kp W w') (hT1 : ∀ W : World, Kp w W → Calls Tryz.prog 73 #[.slice p l c, .slice q2 k2 d2] W fun e w' => ∃ v, e = .returned v ∧ P1 w' v ∧ Kp W w') (hT2 : ∀ W : World, Kp w W → Calls Tryz.prog 73 #[.slice p2 l2 c2, .slice q k d] W fun e w' => ∃ v, e = .returned v ∧ P2 w' v ∧ Kp W w') (hC : ∀ (W : World) (u v : Value), Kp w W → P1 W u → P2 W v → Calls Tryz.prog 75 #[u, v] W fun e w' => e = .returned (.int .i64 C9) ∧ Kp W w') (t3 : (S == 0) = true) : Calls Tryz.prog 78 #[.agg #[.bool s, .slice p l c, .slice q k d], .agg #[.bool s2, .slice p2 l2 c2, .slice q2 k2 d2]] w fun e w' => e = .returned (.int .i64 0) ∧ Kp w w' := by
  cases s
  · skip
    go_enter Tryz.func78, Tryz.ntmps78
    go_wp2_with (first | (go_at_call_of 41 (Value.slice p l c); refine (hs1 _ ?q0).mono ?_; (case q0 => exact ((Kp.refl w).alloc _).alloc _); rintro e wa ⟨rfl, ga⟩; have ka : Kp w wa := Kp.trans (((Kp.refl w).alloc _).alloc _) ga; have x0 := kkeep ga (b := w.heap.size) (o := 0) (v := .bool false) (by simp [go_sem]); have x1 := kkeep ga (b := w.heap.size) (o := 1) (v := .slice p l c) (by simp [go_sem]); have x2 := kkeep ga (b := w.heap.size) (o := 2) (v := .slice q k d) (by simp [go_sem]); have x3 := kkeep ga (b := w.heap.size + 1) (o := 0) (v := .bool s2) (by simp [go_sem]); have x4 := kkeep ga (b := w.heap.size + 1) (o := 1) (v := .slice p2 l2 c2) (by simp [go_sem]); have x5 := kkeep ga (b := w.heap.size + 1) (o := 2) (v := .slice q2 k2 d2) (by simp [go_sem])) | (go_at_call_of 41 (Value.slice p2 l2 c2); refine (hs2 _ ?q0).mono ?_; (case q0 => exact ka); rintro e wb ⟨rfl, gb⟩; have kb : Kp w wb := Kp.trans ka gb; have y0 := kkeep gb x0; have y1 := kkeep gb x1; have y2 := kkeep gb x2; have y3 := kkeep gb x3; have y4 := kkeep gb x4; have y5 := kkeep gb x5))
    have dd0 : True := trivial
    have dw0 : wb.drew.cell? ⟨w.heap.size, 0, none⟩ = some (.bool false) := y0
    have dw1 : wb.drew.cell? ⟨w.heap.size, 1, none⟩ = some (.slice p l c) := y1
    have dw2 : wb.drew.cell? ⟨w.heap.size, 2, none⟩ = some (.slice q k d) := y2
    have dw3 : wb.drew.cell? ⟨w.heap.size + 1, 0, none⟩ = some (.bool s2) := y3
    have dw4 : wb.drew.cell? ⟨w.heap.size + 1, 1, none⟩ = some (.slice p2 l2 c2) := y4
    have dw5 : wb.drew.cell? ⟨w.heap.size + 1, 2, none⟩ = some (.slice q2 k2 d2) := y5
    go_region_held3 (fun w' => w'.cell? ⟨w.heap.size, 0, none⟩ = some (.bool false) ∧ w'.cell? ⟨w.heap.size, 1, none⟩ = some (.slice p l c) ∧ w'.cell? ⟨w.heap.size, 2, none⟩ = some (.slice q k d) ∧ w'.cell? ⟨w.heap.size + 1, 0, none⟩ = some (.bool s2) ∧ w'.cell? ⟨w.heap.size + 1, 1, none⟩ = some (.slice p2 l2 c2) ∧ w'.cell? ⟨w.heap.size + 1, 2, none⟩ = some (.slice q2 k2 d2)) (first | (with_reducible exact ⟨dw0, dw1, dw2, dw3, dw4, dw5⟩) | (with_reducible exact ⟨y0, y1, y2, y3, y4, y5⟩) | (with_reducible exact ⟨a0, a1, a2, a3, a4, a5⟩) | (with_reducible exact ⟨b0, b1, b2, b3, b4, b5⟩) | (with_reducible exact ⟨e0, e1, e2, e3, e4, e5⟩)) (first | (go_at_call_of 73 (Value.slice p l c); refine (hT1 _ ?q0).mono ?_; (case q0 => exact kb.drew); rintro e wc ⟨u9, rfl, hu, gc⟩; have kc : Kp w wc := Kp.trans kb.drew gc; have a0 := kkeep (Kp.trans (Kp.drew (Kp.refl _)) gc) y0; have a1 := kkeep (Kp.trans (Kp.drew (Kp.refl _)) gc) y1; have a2 := kkeep (Kp.trans (Kp.drew (Kp.refl _)) gc) y2; have a3 := kkeep (Kp.trans (Kp.drew (Kp.refl _)) gc) y3; have a4 := kkeep (Kp.trans (Kp.drew (Kp.refl _)) gc) y4; have a5 := kkeep (Kp.trans (Kp.drew (Kp.refl _)) gc) y5) | (go_at_call_of 73 (Value.slice p2 l2 c2); refine (hT2 _ ?q0).mono ?_; (case q0 => exact kc); rintro e wd ⟨v9, rfl, hv, gd⟩; have kd : Kp w wd := Kp.trans kc gd; have hu2 := hk1 _ _ _ gd hu; have b0 := kkeep gd a0; have b1 := kkeep gd a1; have b2 := kkeep gd a2; have b3 := kkeep gd a3; have b4 := kkeep gd a4; have b5 := kkeep gd a5) | (go_at_call 75; refine (hC _ u9 v9 kd hu2 hv).mono ?_; rintro e we ⟨rfl, ge⟩; have ke : Kp w we := Kp.trans kd ge; have e0 := kkeep ge b0; have e1 := kkeep ge b1; have e2 := kkeep ge b2; have e3 := kkeep ge b3; have e4 := kkeep ge b4; have e5 := kkeep ge b5))
    go_wp2
    exact bodyPost_ret (v := .int .i64 0) (by simp [results, Tryz.results78, go_sem]) rfl ⟨rfl, ke⟩
  · skip
    go_enter Tryz.func78, Tryz.ntmps78
    go_wp2_with (first | (go_at_call_of 41 (Value.slice p l c); refine (hs1 _ ?q0).mono ?_; (case q0 => exact ((Kp.refl w).alloc _).alloc _); rintro e wa ⟨rfl, ga⟩; have ka : Kp w wa := Kp.trans (((Kp.refl w).alloc _).alloc _) ga; have x0 := kkeep ga (b := w.heap.size) (o := 0) (v := .bool true) (by simp [go_sem]); have x1 := kkeep ga (b := w.heap.size) (o := 1) (v := .slice p l c) (by simp [go_sem]); have x2 := kkeep ga (b := w.heap.size) (o := 2) (v := .slice q k d) (by simp [go_sem]); have x3 := kkeep ga (b := w.heap.size + 1) (o := 0) (v := .bool s2) (by simp [go_sem]); have x4 := kkeep ga (b := w.heap.size + 1) (o := 1) (v := .slice p2 l2 c2) (by simp [go_sem]); have x5 := kkeep ga (b := w.heap.size + 1) (o := 2) (v := .slice q2 k2 d2) (by simp [go_sem])) | (go_at_call_of 41 (Value.slice p2 l2 c2); refine (hs2 _ ?q0).mono ?_; (case q0 => exact ka); rintro e wb ⟨rfl, gb⟩; have kb : Kp w wb := Kp.trans ka gb; have y0 := kkeep gb x0; have y1 := kkeep gb x1; have y2 := kkeep gb x2; have y3 := kkeep gb x3; have y4 := kkeep gb x4; have y5 := kkeep gb x5))
    have dd0 : True := trivial
    have dw0 : wb.drew.cell? ⟨w.heap.size, 0, none⟩ = some (.bool true) := y0
    have dw1 : wb.drew.cell? ⟨w.heap.size, 1, none⟩ = some (.slice p l c) := y1
    have dw2 : wb.drew.cell? ⟨w.heap.size, 2, none⟩ = some (.slice q k d) := y2
    have dw3 : wb.drew.cell? ⟨w.heap.size + 1, 0, none⟩ = some (.bool s2) := y3
    have dw4 : wb.drew.cell? ⟨w.heap.size + 1, 1, none⟩ = some (.slice p2 l2 c2) := y4
    have dw5 : wb.drew.cell? ⟨w.heap.size + 1, 2, none⟩ = some (.slice q2 k2 d2) := y5
    go_region_held3 (fun w' => w'.cell? ⟨w.heap.size, 0, none⟩ = some (.bool true) ∧ w'.cell? ⟨w.heap.size, 1, none⟩ = some (.slice p l c) ∧ w'.cell? ⟨w.heap.size, 2, none⟩ = some (.slice q k d) ∧ w'.cell? ⟨w.heap.size + 1, 0, none⟩ = some (.bool s2) ∧ w'.cell? ⟨w.heap.size + 1, 1, none⟩ = some (.slice p2 l2 c2) ∧ w'.cell? ⟨w.heap.size + 1, 2, none⟩ = some (.slice q2 k2 d2)) (first | (with_reducible exact ⟨dw0, dw1, dw2, dw3, dw4, dw5⟩) | (with_reducible exact ⟨y0, y1, y2, y3, y4, y5⟩) | (with_reducible exact ⟨a0, a1, a2, a3, a4, a5⟩) | (with_reducible exact ⟨b0, b1, b2, b3, b4, b5⟩) | (with_reducible exact ⟨e0, e1, e2, e3, e4, e5⟩)) (first | (go_at_call_of 73 (Value.slice p l c); refine (hT1 _ ?q0).mono ?_; (case q0 => exact kb.drew); rintro e wc ⟨u9, rfl, hu, gc⟩; have kc : Kp w wc := Kp.trans kb.drew gc; have a0 := kkeep (Kp.trans (Kp.drew (Kp.refl _)) gc) y0; have a1 := kkeep (Kp.trans (Kp.drew (Kp.refl _)) gc) y1; have a2 := kkeep (Kp.trans (Kp.drew (Kp.refl _)) gc) y2; have a3 := kkeep (Kp.trans (Kp.drew (Kp.refl _)) gc) y3; have a4 := kkeep (Kp.trans (Kp.drew (Kp.refl _)) gc) y4; have a5 := kkeep (Kp.trans (Kp.drew (Kp.refl _)) gc) y5) | (go_at_call_of 73 (Value.slice p2 l2 c2); refine (hT2 _ ?q0).mono ?_; (case q0 => exact kc); rintro e wd ⟨v9, rfl, hv, gd⟩; have kd : Kp w wd := Kp.trans kc gd; have hu2 := hk1 _ _ _ gd hu; have b0 := kkeep gd a0; have b1 := kkeep gd a1; have b2 := kkeep gd a2; have b3 := kkeep gd a3; have b4 := kkeep gd a4; have b5 := kkeep gd a5) | (go_at_call 75; refine (hC _ u9 v9 kd hu2 hv).mono ?_; rintro e we ⟨rfl, ge⟩; have ke : Kp w we := Kp.trans kd ge; have e0 := kkeep ge b0; have e1 := kkeep ge b1; have e2 := kkeep ge b2; have e3 := kkeep ge b3; have e4 := kkeep ge b4; have e5 := kkeep ge b5))
    go_wp2
    exact bodyPost_ret (v := .int .i64 0) (by simp [results, Tryz.results78, go_sem]) rfl ⟨rfl, ke⟩
set_option maxRecDepth 20000 in
set_option maxHeartbeats 1000000 in
theorem rcmpP_ (S C9 : Int) (P1 P2 : World → Value → Prop) (p : Option Addr) (l c : Nat) (q : Option Addr) (k d : Nat) (s2 : Bool) (p2 : Option Addr) (l2 c2 : Nat) (q2 : Option Addr) (k2 d2 : Nat) (w : World) (hk1 : ∀ (W W' : World) (v : Value), Kp W W' → P1 W v → P1 W' v) (hs1 : ∀ W : World, Kp w W → Calls Tryz.prog 41 #[.agg #[.bool false, .slice p l c, .slice q k d]] W fun e w' => e = .returned (.int .i64 S) ∧ Kp W w') (hs2 : ∀ W : World, Kp w W → Calls Tryz.prog 41 #[.agg #[.bool s2, .slice p2 l2 c2, .slice q2 k2 d2]] W fun e w' => e = .returned (.int .i64 S) ∧ Kp W w') (hT1 : ∀ W : World, Kp w W → Calls Tryz.prog 73 #[.slice p l c, .slice q2 k2 d2] W fun e w' => ∃ v, e = .returned v ∧ P1 w' v ∧ Kp W w') (hT2 : ∀ W : World, Kp w W → Calls Tryz.prog 73 #[.slice p2 l2 c2, .slice q k d] W fun e w' => ∃ v, e = .returned v ∧ P2 w' v ∧ Kp W w') (hC : ∀ (W : World) (u v : Value), Kp w W → P1 W u → P2 W v → Calls Tryz.prog 75 #[u, v] W fun e w' => e = .returned (.int .i64 C9) ∧ Kp W w') (t3 : (S == 0) = false) : Calls Tryz.prog 78 #[.agg #[.bool false, .slice p l c, .slice q k d], .agg #[.bool s2, .slice p2 l2 c2, .slice q2 k2 d2]] w fun e w' => e = .returned (.int .i64 C9) ∧ Kp w w' := by
  go_enter Tryz.func78, Tryz.ntmps78
  go_wp2_with (first | (go_at_call_of 41 (Value.slice p l c); refine (hs1 _ ?q0).mono ?_; (case q0 => exact ((Kp.refl w).alloc _).alloc _); rintro e wa ⟨rfl, ga⟩; have ka : Kp w wa := Kp.trans (((Kp.refl w).alloc _).alloc _) ga; have x0 := kkeep ga (b := w.heap.size) (o := 0) (v := .bool false) (by simp [go_sem]); have x1 := kkeep ga (b := w.heap.size) (o := 1) (v := .slice p l c) (by simp [go_sem]); have x2 := kkeep ga (b := w.heap.size) (o := 2) (v := .slice q k d) (by simp [go_sem]); have x3 := kkeep ga (b := w.heap.size + 1) (o := 0) (v := .bool s2) (by simp [go_sem]); have x4 := kkeep ga (b := w.heap.size + 1) (o := 1) (v := .slice p2 l2 c2) (by simp [go_sem]); have x5 := kkeep ga (b := w.heap.size + 1) (o := 2) (v := .slice q2 k2 d2) (by simp [go_sem])) | (go_at_call_of 41 (Value.slice p2 l2 c2); refine (hs2 _ ?q0).mono ?_; (case q0 => exact ka); rintro e wb ⟨rfl, gb⟩; have kb : Kp w wb := Kp.trans ka gb; have y0 := kkeep gb x0; have y1 := kkeep gb x1; have y2 := kkeep gb x2; have y3 := kkeep gb x3; have y4 := kkeep gb x4; have y5 := kkeep gb x5))
  have dd0 : True := trivial
  have dw0 : wb.drew.cell? ⟨w.heap.size, 0, none⟩ = some (.bool false) := y0
  have dw1 : wb.drew.cell? ⟨w.heap.size, 1, none⟩ = some (.slice p l c) := y1
  have dw2 : wb.drew.cell? ⟨w.heap.size, 2, none⟩ = some (.slice q k d) := y2
  have dw3 : wb.drew.cell? ⟨w.heap.size + 1, 0, none⟩ = some (.bool s2) := y3
  have dw4 : wb.drew.cell? ⟨w.heap.size + 1, 1, none⟩ = some (.slice p2 l2 c2) := y4
  have dw5 : wb.drew.cell? ⟨w.heap.size + 1, 2, none⟩ = some (.slice q2 k2 d2) := y5
  go_region_held3 (fun w' => w'.cell? ⟨w.heap.size, 0, none⟩ = some (.bool false) ∧ w'.cell? ⟨w.heap.size, 1, none⟩ = some (.slice p l c) ∧ w'.cell? ⟨w.heap.size, 2, none⟩ = some (.slice q k d) ∧ w'.cell? ⟨w.heap.size + 1, 0, none⟩ = some (.bool s2) ∧ w'.cell? ⟨w.heap.size + 1, 1, none⟩ = some (.slice p2 l2 c2) ∧ w'.cell? ⟨w.heap.size + 1, 2, none⟩ = some (.slice q2 k2 d2)) (first | (with_reducible exact ⟨dw0, dw1, dw2, dw3, dw4, dw5⟩) | (with_reducible exact ⟨y0, y1, y2, y3, y4, y5⟩) | (with_reducible exact ⟨a0, a1, a2, a3, a4, a5⟩) | (with_reducible exact ⟨b0, b1, b2, b3, b4, b5⟩) | (with_reducible exact ⟨e0, e1, e2, e3, e4, e5⟩)) (first | (go_at_call_of 73 (Value.slice p l c); refine (hT1 _ ?q0).mono ?_; (case q0 => exact kb.drew); rintro e wc ⟨u9, rfl, hu, gc⟩; have kc : Kp w wc := Kp.trans kb.drew gc; have a0 := kkeep (Kp.trans (Kp.drew (Kp.refl _)) gc) y0; have a1 := kkeep (Kp.trans (Kp.drew (Kp.refl _)) gc) y1; have a2 := kkeep (Kp.trans (Kp.drew (Kp.refl _)) gc) y2; have a3 := kkeep (Kp.trans (Kp.drew (Kp.refl _)) gc) y3; have a4 := kkeep (Kp.trans (Kp.drew (Kp.refl _)) gc) y4; have a5 := kkeep (Kp.trans (Kp.drew (Kp.refl _)) gc) y5) | (go_at_call_of 73 (Value.slice p2 l2 c2); refine (hT2 _ ?q0).mono ?_; (case q0 => exact kc); rintro e wd ⟨v9, rfl, hv, gd⟩; have kd : Kp w wd := Kp.trans kc gd; have hu2 := hk1 _ _ _ gd hu; have b0 := kkeep gd a0; have b1 := kkeep gd a1; have b2 := kkeep gd a2; have b3 := kkeep gd a3; have b4 := kkeep gd a4; have b5 := kkeep gd a5) | (go_at_call 75; refine (hC _ u9 v9 kd hu2 hv).mono ?_; rintro e we ⟨rfl, ge⟩; have ke : Kp w we := Kp.trans kd ge; have e0 := kkeep ge b0; have e1 := kkeep ge b1; have e2 := kkeep ge b2; have e3 := kkeep ge b3; have e4 := kkeep ge b4; have e5 := kkeep ge b5))
  go_wp2
  exact bodyPost_ret (v := .int .i64 C9) (by simp [results, Tryz.results78, go_sem]) rfl ⟨rfl, ke⟩
set_option maxRecDepth 20000 in
set_option maxHeartbeats 1000000 in
theorem rcmpN_ (S C9 : Int) (P1 P2 : World → Value → Prop) (p : Option Addr) (l c : Nat) (q : Option Addr) (k d : Nat) (s2 : Bool) (p2 : Option Addr) (l2 c2 : Nat) (q2 : Option Addr) (k2 d2 : Nat) (w : World) (hk1 : ∀ (W W' : World) (v : Value), Kp W W' → P1 W v → P1 W' v) (hs1 : ∀ W : World, Kp w W → Calls Tryz.prog 41 #[.agg #[.bool true, .slice p l c, .slice q k d]] W fun e w' => e = .returned (.int .i64 S) ∧ Kp W w') (hs2 : ∀ W : World, Kp w W → Calls Tryz.prog 41 #[.agg #[.bool s2, .slice p2 l2 c2, .slice q2 k2 d2]] W fun e w' => e = .returned (.int .i64 S) ∧ Kp W w') (hT1 : ∀ W : World, Kp w W → Calls Tryz.prog 73 #[.slice p l c, .slice q2 k2 d2] W fun e w' => ∃ v, e = .returned v ∧ P1 w' v ∧ Kp W w') (hT2 : ∀ W : World, Kp w W → Calls Tryz.prog 73 #[.slice p2 l2 c2, .slice q k d] W fun e w' => ∃ v, e = .returned v ∧ P2 w' v ∧ Kp W w') (hC : ∀ (W : World) (u v : Value), Kp w W → P1 W u → P2 W v → Calls Tryz.prog 75 #[u, v] W fun e w' => e = .returned (.int .i64 C9) ∧ Kp W w') (t3 : (S == 0) = false) (t4 : IntKind.i64.wrap (-C9) = -C9) : Calls Tryz.prog 78 #[.agg #[.bool true, .slice p l c, .slice q k d], .agg #[.bool s2, .slice p2 l2 c2, .slice q2 k2 d2]] w fun e w' => e = .returned (.int .i64 (-C9)) ∧ Kp w w' := by
  go_enter Tryz.func78, Tryz.ntmps78
  go_wp2_with (first | (go_at_call_of 41 (Value.slice p l c); refine (hs1 _ ?q0).mono ?_; (case q0 => exact ((Kp.refl w).alloc _).alloc _); rintro e wa ⟨rfl, ga⟩; have ka : Kp w wa := Kp.trans (((Kp.refl w).alloc _).alloc _) ga; have x0 := kkeep ga (b := w.heap.size) (o := 0) (v := .bool true) (by simp [go_sem]); have x1 := kkeep ga (b := w.heap.size) (o := 1) (v := .slice p l c) (by simp [go_sem]); have x2 := kkeep ga (b := w.heap.size) (o := 2) (v := .slice q k d) (by simp [go_sem]); have x3 := kkeep ga (b := w.heap.size + 1) (o := 0) (v := .bool s2) (by simp [go_sem]); have x4 := kkeep ga (b := w.heap.size + 1) (o := 1) (v := .slice p2 l2 c2) (by simp [go_sem]); have x5 := kkeep ga (b := w.heap.size + 1) (o := 2) (v := .slice q2 k2 d2) (by simp [go_sem])) | (go_at_call_of 41 (Value.slice p2 l2 c2); refine (hs2 _ ?q0).mono ?_; (case q0 => exact ka); rintro e wb ⟨rfl, gb⟩; have kb : Kp w wb := Kp.trans ka gb; have y0 := kkeep gb x0; have y1 := kkeep gb x1; have y2 := kkeep gb x2; have y3 := kkeep gb x3; have y4 := kkeep gb x4; have y5 := kkeep gb x5))
  have dd0 : True := trivial
  have dw0 : wb.drew.cell? ⟨w.heap.size, 0, none⟩ = some (.bool true) := y0
  have dw1 : wb.drew.cell? ⟨w.heap.size, 1, none⟩ = some (.slice p l c) := y1
  have dw2 : wb.drew.cell? ⟨w.heap.size, 2, none⟩ = some (.slice q k d) := y2
  have dw3 : wb.drew.cell? ⟨w.heap.size + 1, 0, none⟩ = some (.bool s2) := y3
  have dw4 : wb.drew.cell? ⟨w.heap.size + 1, 1, none⟩ = some (.slice p2 l2 c2) := y4
  have dw5 : wb.drew.cell? ⟨w.heap.size + 1, 2, none⟩ = some (.slice q2 k2 d2) := y5
  go_region_held3 (fun w' => w'.cell? ⟨w.heap.size, 0, none⟩ = some (.bool true) ∧ w'.cell? ⟨w.heap.size, 1, none⟩ = some (.slice p l c) ∧ w'.cell? ⟨w.heap.size, 2, none⟩ = some (.slice q k d) ∧ w'.cell? ⟨w.heap.size + 1, 0, none⟩ = some (.bool s2) ∧ w'.cell? ⟨w.heap.size + 1, 1, none⟩ = some (.slice p2 l2 c2) ∧ w'.cell? ⟨w.heap.size + 1, 2, none⟩ = some (.slice q2 k2 d2)) (first | (with_reducible exact ⟨dw0, dw1, dw2, dw3, dw4, dw5⟩) | (with_reducible exact ⟨y0, y1, y2, y3, y4, y5⟩) | (with_reducible exact ⟨a0, a1, a2, a3, a4, a5⟩) | (with_reducible exact ⟨b0, b1, b2, b3, b4, b5⟩) | (with_reducible exact ⟨e0, e1, e2, e3, e4, e5⟩)) (first | (go_at_call_of 73 (Value.slice p l c); refine (hT1 _ ?q0).mono ?_; (case q0 => exact kb.drew); rintro e wc ⟨u9, rfl, hu, gc⟩; have kc : Kp w wc := Kp.trans kb.drew gc; have a0 := kkeep (Kp.trans (Kp.drew (Kp.refl _)) gc) y0; have a1 := kkeep (Kp.trans (Kp.drew (Kp.refl _)) gc) y1; have a2 := kkeep (Kp.trans (Kp.drew (Kp.refl _)) gc) y2; have a3 := kkeep (Kp.trans (Kp.drew (Kp.refl _)) gc) y3; have a4 := kkeep (Kp.trans (Kp.drew (Kp.refl _)) gc) y4; have a5 := kkeep (Kp.trans (Kp.drew (Kp.refl _)) gc) y5) | (go_at_call_of 73 (Value.slice p2 l2 c2); refine (hT2 _ ?q0).mono ?_; (case q0 => exact kc); rintro e wd ⟨v9, rfl, hv, gd⟩; have kd : Kp w wd := Kp.trans kc gd; have hu2 := hk1 _ _ _ gd hu; have b0 := kkeep gd a0; have b1 := kkeep gd a1; have b2 := kkeep gd a2; have b3 := kkeep gd a3; have b4 := kkeep gd a4; have b5 := kkeep gd a5) | (go_at_call 75; refine (hC _ u9 v9 kd hu2 hv).mono ?_; rintro e we ⟨rfl, ge⟩; have ke : Kp w we := Kp.trans kd ge; have e0 := kkeep ge b0; have e1 := kkeep ge b1; have e2 := kkeep ge b2; have e3 := kkeep ge b3; have e4 := kkeep ge b4; have e5 := kkeep ge b5))
  go_wp2
  exact bodyPost_ret (v := .int .i64 (-C9)) (by simp [results, Tryz.results78, go_sem]) rfl ⟨rfl, ke⟩
end Go.Proofs.YteedfmghgkmofaaGreatDoor
namespace Go.Proofs.YteedfmghgkmofaaGreatDoor
open Go.RowKit
/-- a ratio's upper part with its sign -/
def rvI (s : Bool) (a : Nat) : Int := if s then -(a : Int) else a
def cmI (x y : Int) : Int := if x < y then -1 else if y < x then 1 else 0
theorem rcmp6_ (s : Bool) (p : Option Addr) (l c : Nat) (q : Option Addr) (k d : Nat) (s2 : Bool) (p2 : Option Addr) (l2 c2 : Nat) (q2 : Option Addr) (k2 d2 : Nat) (a b x y : Nat) (B1 B2 : Nat) (w : World) (h1 : Own w B1 (.slice p l c) (dig a)) (h2 : Own w B1 (.slice q k d) (dig b)) (h3 : Own w B2 (.slice p2 l2 c2) (dig x)) (h4 : Own w B2 (.slice q2 k2 d2) (dig y)) (zb : b ≠ 0) (zy : y ≠ 0) (la : blen a ≤ 200000) (lb : blen b ≤ 200000) (lx : blen x ≤ 200000) (ly : blen y ≤ 200000) : Calls Tryz.prog 78 #[.agg #[.bool s, .slice p l c, .slice q k d], .agg #[.bool s2, .slice p2 l2 c2, .slice q2 k2 d2]] w fun e w' => e = .returned (.int .i64 (cmI (rvI s a * y) (rvI s2 x * b))) ∧ Kp w w' := by
  have hs1 : ∀ W : World, Kp w W → Calls Tryz.prog 41 #[.agg #[.bool s, .slice p l c, .slice q k d]] W fun e w' => e = .returned (.int .i64 (if a = 0 then 0 else if s then -1 else 1)) ∧ Kp W w' := fun W g => rsign_ s _ _ a W (h1.kp g).ls (by omega)
  have hs2 : ∀ W : World, Kp w W → Calls Tryz.prog 41 #[.agg #[.bool s2, .slice p2 l2 c2, .slice q2 k2 d2]] W fun e w' => e = .returned (.int .i64 (if x = 0 then 0 else if s2 then -1 else 1)) ∧ Kp W w' := fun W g => rsign_ s2 _ _ x W (h3.kp g).ls (by omega)
  have len : ∀ z : Nat, blen z ≤ 200000 → len32 z ≤ 16384 := fun z hz => dlen z 16384 (by omega)
  have hT1 : ∀ W : World, Kp w W → Calls Tryz.prog 73 #[.slice p l c, .slice q2 k2 d2] W fun e w' => ∃ v, e = .returned v ∧ Ls w' v (dig (a * y)) ∧ Kp W w' := fun W g => (timesR _ _ a y W (h1.kp g).ls (h4.kp g).ls (len a la) (len y ly)).mono (fun e w' ⟨pp, cc, e1, ar, ll, g2⟩ => ⟨_, e1, ⟨pp, cc, rfl, ar, ll⟩, g2⟩)
  have hT2 : ∀ W : World, Kp w W → Calls Tryz.prog 73 #[.slice p2 l2 c2, .slice q k d] W fun e w' => ∃ v, e = .returned v ∧ Ls w' v (dig (x * b)) ∧ Kp W w' := fun W g => (timesR _ _ x b W (h3.kp g).ls (h2.kp g).ls (len x lx) (len b lb)).mono (fun e w' ⟨pp, cc, e1, ar, ll, g2⟩ => ⟨_, e1, ⟨pp, cc, rfl, ar, ll⟩, g2⟩)
  have bl : ∀ u v : Nat, blen u ≤ 200000 → blen v ≤ 200000 → blen (u * v) ≤ 33554432 := fun u v h1 h2 => by
    obtain ⟨T5, hT5⟩ : ∃ T5 : Nat, T5 = 200000 := ⟨_, rfl⟩
    have g : blen (u * v) ≤ T5 + T5 := by
      rw [blen_le_iff, Nat.pow_add]
      exact Nat.mul_lt_mul'' ((blen_le_iff u T5).1 (by omega)) ((blen_le_iff v T5).1 (by omega))
    omega
  have hC : ∀ (W : World) (u v : Value), Kp w W → Ls W u (dig (a * y)) → Ls W v (dig (x * b)) → Calls Tryz.prog 75 #[u, v] W fun e w' => e = .returned (.int .i64 (cmpN (a * y) (x * b))) ∧ Kp W w' := fun W u v _ g1 g2 => cmpR u v (a * y) (x * b) W g1 g2 (bl a y la ly) (bl x b lx lb)
  have hk : ∀ (W W' : World) (v : Value), Kp W W' → Ls W v (dig (a * y)) → Ls W' v (dig (a * y)) := fun W W' v g h => h.kp g
  have py : 0 < y := by omega
  have pb : 0 < b := by omega
  have key : ∀ u v : Nat, 0 < v → 0 < u → 0 < u * v := fun u v h1 h2 => Nat.mul_pos h2 h1
  obtain ⟨A9, hA9⟩ : ∃ A9, A9 = a * y := ⟨_, rfl⟩
  obtain ⟨X9, hX9⟩ : ∃ X9, X9 = x * b := ⟨_, rfl⟩
  have eA : rvI s a * (y : Int) = rvI s A9 := by unfold rvI; rw [hA9]; cases s <;> simp [Int.neg_mul]
  have eX : rvI s2 x * (b : Int) = rvI s2 X9 := by unfold rvI; rw [hX9]; cases s2 <;> simp [Int.neg_mul]
  have zA : a = 0 ↔ A9 = 0 := by rw [hA9]; constructor <;> intro h; rw [h]; simp; rcases Nat.mul_eq_zero.1 h with h | h; exact h; omega
  have zX : x = 0 ↔ X9 = 0 := by rw [hX9]; constructor <;> intro h; rw [h]; simp; rcases Nat.mul_eq_zero.1 h with h | h; exact h; omega
  rw [eA, eX]
  rw [← hA9] at hT1 hC hk
  rw [← hX9] at hT2 hC
  simp only [zA] at hs1
  simp only [zX] at hs2
  obtain ⟨S, hS⟩ : ∃ S : Int, S = if A9 = 0 then 0 else if s then -1 else 1 := ⟨_, rfl⟩
  obtain ⟨U, hU⟩ : ∃ U : Int, U = if X9 = 0 then 0 else if s2 then -1 else 1 := ⟨_, rfl⟩
  rw [← hS] at hs1
  rw [← hU] at hs2
  have hcm : cmpN A9 X9 = cmI (A9 : Int) X9 := by
    unfold cmpN cmI
    by_cases c1 : A9 < X9
    · rw [if_pos c1, if_pos (show (A9 : Int) < X9 by omega)]
    · rw [if_neg c1, if_neg (show ¬ (A9 : Int) < X9 by omega)]
      by_cases c2 : X9 < A9
      · rw [if_pos c2, if_pos (show (X9 : Int) < A9 by omega)]
      · rw [if_neg c2, if_neg (show ¬ (X9 : Int) < A9 by omega)]
  clear eA eX zA zX hA9 hX9 h1 h2 h3 h4
  have e1 : S < U → cmI (rvI s A9) (rvI s2 X9) = -1 := fun g => by
    rw [hS, hU] at g
    unfold cmI rvI
    rw [if_pos]
    by_cases c1 : A9 = 0 <;> by_cases c2 : X9 = 0 <;> cases s <;> cases s2 <;> simp [c1, c2] at g ⊢ <;> omega
  have e2 : U < S → cmI (rvI s A9) (rvI s2 X9) = 1 := fun g => by
    rw [hS, hU] at g
    have : rvI s2 X9 < rvI s A9 := by
      unfold rvI
      by_cases c1 : A9 = 0 <;> by_cases c2 : X9 = 0 <;> cases s <;> cases s2 <;> simp [c1, c2] at g ⊢ <;> omega
    unfold cmI
    rw [if_neg (by omega), if_pos this]
  rcases Int.lt_trichotomy S U with g | g | g
  · rw [e1 g]
    exact rcmpL_ S U s p l c q k d s2 p2 l2 c2 q2 k2 d2 w hs1 hs2 g
  · rw [← g] at hs2
    by_cases z : A9 = 0
    · have zU : X9 = 0 := by
        rw [hS, hU, if_pos z] at g
        by_cases c2 : X9 = 0
        · exact c2
        · rw [if_neg c2] at g; cases s2 <;> simp at g
      have e3 : cmI (rvI s A9) (rvI s2 X9) = 0 := by rw [z, zU]; cases s <;> cases s2 <;> rfl
      rw [e3]
      exact rcmpZ_ S _ _ _ s p l c q k d s2 p2 l2 c2 q2 k2 d2 w hk hs1 hs2 hT1 hT2 hC (by rw [hS, if_pos z]; rfl)
    · have zS : (S == 0) = false := by rw [hS, if_neg z]; cases s <;> rfl
      have ss : s = s2 := by
        rw [hS, hU, if_neg z] at g
        by_cases c2 : X9 = 0
        · rw [if_pos c2] at g; cases s <;> simp at g
        · rw [if_neg c2] at g; cases s <;> cases s2 <;> simp at g ⊢
      subst ss
      cases s
      · have e3 : cmI (rvI false A9) (rvI false X9) = cmpN A9 X9 := hcm.symm
        rw [e3]
        exact rcmpP_ S _ _ _ p l c q k d false p2 l2 c2 q2 k2 d2 w hk hs1 hs2 hT1 hT2 hC zS
      · have e3 : cmI (rvI true A9) (rvI true X9) = - cmpN A9 X9 := by
          rw [hcm]; unfold cmI rvI
          by_cases c1 : A9 < X9
          · rw [if_neg (by simp; omega), if_pos (by simp; omega), if_pos (by omega)]; rfl
          · by_cases c2 : X9 < A9
            · rw [if_pos (by simp; omega), if_neg (by omega), if_pos (by omega)]
            · rw [if_neg (by simp; omega), if_neg (by simp; omega), if_neg (by omega), if_neg (by omega)]; rfl
        have wr : IntKind.i64.wrap (-(cmpN A9 X9)) = -(cmpN A9 X9) := by
          rw [hcm]; unfold cmI
          by_cases c1 : (A9 : Int) < X9
          · rw [if_pos c1]; decide +kernel
          · rw [if_neg c1]
            by_cases c2 : (X9 : Int) < A9
            · rw [if_pos c2]; decide +kernel
            · rw [if_neg c2]; decide +kernel
        rw [e3]
        exact rcmpN_ S _ _ _ p l c q k d true p2 l2 c2 q2 k2 d2 w hk hs1 hs2 hT1 hT2 hC zS wr
  · rw [e2 g]
    exact rcmpG_ S U s p l c q k d s2 p2 l2 c2 q2 k2 d2 w hs1 hs2 g
end Go.Proofs.YteedfmghgkmofaaGreatDoor
namespace Go.Proofs.YteedfmghgkmofaaGreatDoor
open Go.RowKit
/-- what Frac answers, written out: in lowest terms as far as twos go -/
def FracX (a b : Nat) (exp : Int) (a' b' : Nat) : Prop := FracOf a b exp a' b' ∧ (a = 0 → a' = 0 ∧ b' = 1) ∧ (a ≠ 0 → ∃ a1 b1 ka kb x y : Nat, a1 % 2 = 1 ∧ b1 % 2 = 1 ∧ a = a1 * 2 ^ ka ∧ b = b1 * 2 ^ kb ∧ a' = a1 * 2 ^ x ∧ b' = b1 * 2 ^ y ∧ (x = 0 ∨ y = 0) ∧ (x : Int) - (y : Int) = exp + ka - kb)
theorem fracX_of (a b a1 b1 ka kb x y : Nat) (exp ex : Int) (h1 : a1 % 2 = 1) (h2 : b1 % 2 = 1) (ha : a = a1 * 2 ^ ka) (hb : b = b1 * 2 ^ kb) (hka : ka ≤ blen a) (hkb : kb ≤ blen b) (hex : ex = exp + ka - kb) (hx : x = ex.toNat) (hy : y = (-ex).toNat) : FracX a b exp (a1 * 2 ^ x) (b1 * 2 ^ y) := by
  refine ⟨frac_of a b a1 b1 ka kb x y exp ex (by omega) (by omega) ha hb hka hkb hex hx hy, fun h => ?_, fun _ => ⟨a1, b1, ka, kb, x, y, h1, h2, ha, hb, rfl, rfl, by omega, by omega⟩⟩
  have hp := Nat.two_pow_pos ka
  rw [ha] at h
  rcases Nat.mul_eq_zero.1 h with z | z
  · omega
  · omega
set_option maxRecDepth 20000 in
set_option maxHeartbeats 1000000 in
theorem fracX_ (neg : Bool) (vn vd : Value) (Ln Ld : List Int) (exp : Int) (w : World) (hn : Ls w vn Ln) (hd : Ls w vd Ld) (hwn : Wd Ln) (hwd : Wd Ld) (ln : Ln.length ≤ 32768) (ld : Ld.length ≤ 32768) (hb : val Ld ≠ 0) (he : exp.natAbs ≤ 1048576) :
    Calls Tryz.prog 71 #[.bool neg, vn, vd, .int .i64 exp] w fun e w' => ∃ (vn' vd' : Value) (a' b' : Nat) (ng : Bool), e = .returned (.agg #[.bool ng, vn', vd']) ∧ Own w' w.heap.size vn' (dig a') ∧ Own w' w.heap.size vd' (dig b') ∧ (FracX (val Ln) (val Ld) exp a' b' ∧ (val Ln ≠ 0 → ng = neg)) ∧ Kp w w' := by
  obtain ⟨w0, hw0⟩ : ∃ w0, w0 = w.alloc (.cells #[.bool false, .slice none 0 0, .slice none 0 0] 43) := ⟨_, rfl⟩
  have hk0 : Kp w w0 := by rw [hw0]; exact (Kp.refl w).alloc _
  obtain ⟨a, ha⟩ : ∃ a, a = val Ln := ⟨_, rfl⟩
  obtain ⟨b, hb9⟩ : ∃ b, b = val Ld := ⟨_, rfl⟩
  have hc := normO vn Ln w0 (hn.kp hk0) hwn (by omega)
  have hc2 := fun w' (k : Kp w0 w') => normO vd Ld w' ((hd.kp hk0).kp k) hwd (by omega)
  have la : blen a ≤ 1048576 := by
    have := blen_len a Ln.length (by rw [ha, ← tl_len Ln hwn]; exact tl_le Ln)
    omega
  have lb : blen b ≤ 1048576 := by
    have := blen_len b Ld.length (by rw [hb9, ← tl_len Ld hwd]; exact tl_le Ld)
    omega
  rw [← ha] at hc
  rw [← hb9] at hc2 hb
  rw [← ha, ← hb9]
  have HLA : Hid (blen a ≤ 1048576 ∧ blen b ≤ 1048576 ∧ b ≠ 0 ∧ exp.natAbs ≤ 1048576) := ⟨la, lb, hb, he⟩
  have Hw0 : Hid (w0 = w.alloc (.cells #[.bool false, .slice none 0 0, .slice none 0 0] 43)) := hw0
  clear hk0 ha hb9 hn hd hwn hwd ln ld la lb hb he
  by_cases cz : a = 0
  · subst cz
    rw [dig_zero] at hc
    go_enter Tryz.func71, Tryz.ntmps71
    go_wp2_with fail
    rw [← hw0]
    refine hc.mono ?_; rintro e w1 ⟨v1, rfl, hO, hk⟩
    obtain ⟨p1, c1, rfl, _⟩ := hO.len
    have hc3 := hc2 w1 hk
    have K0 : Hid (Kp w0 w1) := hk
    clear hc hc2 hO hk hw0
    go_wp2_with fail
    refine hc3.mono ?_; rintro e w2 ⟨v2, rfl, hO, hk⟩
    replace K0 : Hid (Kp w0 w2) := K0.out.trans hk
    clear hc3 hO hk
    obtain ⟨w3, hw3⟩ : ∃ w3, w3 = w2.alloc (.cells #[.int .u32 1] 100) := ⟨_, rfl⟩
    obtain ⟨g3, hg3⟩ : ∃ g3, g3 = w2.heap.size := ⟨_, rfl⟩
    have O1 := own1 w2
    rw [← hw3, ← hg3] at O1
    have hsz := K0.out.size
    rw [← hg3] at hsz
    replace K0 : Hid (Kp w0 w3) := K0.out.trans (by rw [hw3]; exact (Kp.refl _).alloc _)
    have ON : Hid (Own w3 w0.heap.size (.slice none 0 0) (dig 0)) := by rw [dig_zero]; exact Own.nil _ _
    have OD : Hid (Own w3 w0.heap.size (.slice (some ⟨g3, 0, none⟩) 1 1) (dig 1)) := by
      rw [dig_one]
      exact O1.mono hsz
    have HFR : Hid (FracX 0 b exp 0 1) := ⟨⟨by decide, by simp, fun _ _ _ h => absurd rfl h, by rw [blen_zero]; omega, by have : blen 1 = 1 := blen_uniq 1 0 (by decide) (by decide); omega⟩, fun _ => ⟨rfl, rfl⟩, fun h => absurd rfl h⟩
    have HW3 : Hid (w2.alloc (.cells #[.int .u32 1] 100) = w3 ∧ w2.heap.size = g3) := ⟨hw3.symm, hg3.symm⟩
    clear O1 hsz hw3 hg3
    have hlt : w.heap.size < w0.heap.size := by rw [Hw0.out]; simp
    have k0 := kkeep K0.out (b := w.heap.size) (o := 0) (v := .bool false) (by rw [Hw0.out]; simp [go_sem])
    have z0 : w3.frozen? ⟨w.heap.size, 0, none⟩ = false := by rw [Below.frozen K0.out hlt, Hw0.out]; simp [go_sem]
    have k1 := kkeep K0.out (b := w.heap.size) (o := 1) (v := .slice none 0 0) (by rw [Hw0.out]; simp [go_sem])
    have z1 : w3.frozen? ⟨w.heap.size, 1, none⟩ = false := by rw [Below.frozen K0.out hlt, Hw0.out]; simp [go_sem]
    have k2 := kkeep K0.out (b := w.heap.size) (o := 2) (v := .slice none 0 0) (by rw [Hw0.out]; simp [go_sem])
    have z2 : w3.frozen? ⟨w.heap.size, 2, none⟩ = false := by rw [Below.frozen K0.out hlt, Hw0.out]; simp [go_sem]
    have hk9 : Kp w w0 := by rw [Hw0.out]; exact (Kp.refl w).alloc _
    have hk0 : Kp w w3 := hk9.trans K0.out
    have HZ : Hid (Own (((w3.setCell ⟨w.heap.size, 0, none⟩ (.bool false)).setCell ⟨w.heap.size, 1, none⟩ (.slice none 0 0)).setCell ⟨w.heap.size, 2, none⟩ (.slice (some ⟨g3, 0, none⟩) 1 1)) w.heap.size (.slice none 0 0) (dig (0)) ∧ Own (((w3.setCell ⟨w.heap.size, 0, none⟩ (.bool false)).setCell ⟨w.heap.size, 1, none⟩ (.slice none 0 0)).setCell ⟨w.heap.size, 2, none⟩ (.slice (some ⟨g3, 0, none⟩) 1 1)) w.heap.size (.slice (some ⟨g3, 0, none⟩) 1 1) (dig (1)) ∧ Kp w (((w3.setCell ⟨w.heap.size, 0, none⟩ (.bool false)).setCell ⟨w.heap.size, 1, none⟩ (.slice none 0 0)).setCell ⟨w.heap.size, 2, none⟩ (.slice (some ⟨g3, 0, none⟩) 1 1))) := ⟨((((ON.out.setOther hlt (.bool false)).setOther hlt (.slice none 0 0)).setOther hlt (.slice (some ⟨g3, 0, none⟩) 1 1))).mono (Nat.le_of_lt hlt), ((((OD.out.setOther hlt (.bool false)).setOther hlt (.slice none 0 0)).setOther hlt (.slice (some ⟨g3, 0, none⟩) 1 1))).mono (Nat.le_of_lt hlt), (((hk0.setCell (Nat.le_refl _) (.bool false)).setCell (Nat.le_refl _) (.slice none 0 0)).setCell (Nat.le_refl _) (.slice (some ⟨g3, 0, none⟩) 1 1))⟩
    clear hk0 hlt hk9
    obtain ⟨q1, q2⟩ := HW3.out
    subst q1
    subst q2
    clear HW3
    go_wp2
    exact bodyPost_ret (v := .agg #[.bool false, .slice none 0 0, .slice (some ⟨w2.heap.size, 0, none⟩) 1 1]) (by simp [results, Tryz.results71, go_sem] <;> simp [go_sem, *]) rfl ⟨_, _, 0, 1, false, rfl, HZ.out.1, HZ.out.2.1, ⟨HFR.out, fun h => absurd rfl h⟩, HZ.out.2.2⟩
  · have HA0 : Hid (a ≠ 0) := cz
    obtain ⟨a1, ho1, ea, da, hka⟩ := ctz_odd a cz
    obtain ⟨b1, ho2, eb, db, hkb⟩ := ctz_odd b HLA.out.2.2.1
    obtain ⟨ka, hka9⟩ : ∃ ka, ka = ctz a := ⟨_, rfl⟩
    obtain ⟨kb, hkb9⟩ : ∃ kb, kb = ctz b := ⟨_, rfl⟩
    rw [← hka9] at ea da hka
    rw [← hkb9] at eb db hkb
    obtain ⟨e1, he1⟩ : ∃ e1 : Int, e1 = exp + ka := ⟨_, rfl⟩
    obtain ⟨ex, hex⟩ : ∃ ex : Int, ex = e1 - kb := ⟨_, rfl⟩
    obtain ⟨x, hx⟩ : ∃ x, x = ex.toNat := ⟨_, rfl⟩
    obtain ⟨y, hy⟩ : ∃ y, y = (-ex).toNat := ⟨_, rfl⟩
    have hfr := fracX_of a b a1 b1 ka kb x y exp ex ho1 ho2 ea eb hka hkb (by rw [hex, he1]) hx hy
    have HFR : Hid (FracX a b exp (a1 * 2 ^ x) (b1 * 2 ^ y)) := hfr
    have hla := HLA.out
    have ba1 : blen a1 ≤ blen a := by rw [ea, blen_mul _ _ (by omega)]; omega
    have bb1 : blen b1 ≤ blen b := by rw [eb, blen_mul _ _ (by omega)]; omega
    have HB1 : Hid (blen a1 ≤ 16777216 ∧ blen b1 ≤ 16777216 ∧ x ≤ 16777216 ∧ y ≤ 16777216) := ⟨by omega, by omega, by omega, by omega⟩
    have g1 : wrap64 (exp + (ka : Int)) = e1 := by rw [← he1]; exact w64x _ (by omega) (by omega)
    have g2 : wrap64 (e1 - (kb : Int)) = ex := by rw [← hex]; exact w64x _ (by omega) (by omega)
    have HX : Hid (x = ex.toNat ∧ y = (-ex).toNat) := ⟨hx, hy⟩
    have HD : Hid (a / 2 ^ ka = a1 ∧ b / 2 ^ kb = b1 ∧ ka = ctz a ∧ kb = ctz b ∧ ka ≤ 1048576 ∧ kb ≤ 1048576) := ⟨da, db, hka9, hkb9, by omega, by omega⟩
    have hlz := dig_len_zero a
    obtain ⟨M, hM⟩ : ∃ M, M = (dig a).length := ⟨_, rfl⟩
    rw [← hM] at hlz
    have t0 : ¬ ((M : Int) = 0) := by have := mt hlz.1 cz; omega
    have HM : Hid (M = (dig a).length) := hM
    clear hfr hla ba1 bb1 ho1 ho2 ea da hka eb db hkb hka9 hkb9 he1 hex hx hy hlz hM cz
    go_enter Tryz.func71, Tryz.ntmps71
    go_wp2_with fail
    rw [← hw0]
    refine hc.mono ?_; rintro e w1 ⟨v1, rfl, hO, hk⟩
    obtain ⟨p1, c1, rfl, _⟩ := hO.len
    have OA : Hid (Own w1 w0.heap.size (.slice p1 (dig a).length c1) (dig a)) := hO
    rw [← HM.out] at OA ⊢
    have hc3 := hc2 w1 hk
    have K0 : Hid (Kp w0 w1) := hk
    clear hc hc2 hO hk hw0
    go_wp2_with fail
    refine hc3.mono ?_; rintro e w2 ⟨v2, rfl, hO, hk⟩
    have OB : Hid (Own w2 w0.heap.size v2 (dig b)) := hO.mono K0.out.size
    replace OA : Hid (Own w2 w0.heap.size (.slice p1 M c1) (dig a)) := OA.out.kp hk
    replace K0 : Hid (Kp w0 w2) := K0.out.trans hk
    clear hc3 hO hk
    have hc := zerosR (.slice p1 M c1) a w2 OA.out.ls (by have := HLA.out; omega)
    rw [← HD.out.2.2.1] at hc
    go_wp2_with fail
    refine hc.mono ?_; rintro e w' ⟨rfl, hw'⟩; obtain rfl := hw'.symm; clear hc hw'
    have hc := rightO (.slice p1 M c1) a ka w2 OA.out.ls (by have := HLA.out; omega) (by have := HD.out; omega)
    rw [HD.out.1] at hc
    go_wp2_with fail
    refine hc.mono ?_; rintro e w3 ⟨v3, bb, rfl, hO, hk⟩
    replace OA : Hid (Own w3 w0.heap.size v3 (dig a1)) := hO.mono K0.out.size
    replace OB : Hid (Own w3 w0.heap.size v2 (dig b)) := OB.out.kp hk
    replace K0 : Hid (Kp w0 w3) := K0.out.trans hk
    clear hc hO hk
    have hc := zerosR v2 b w3 OB.out.ls (by have := HLA.out; omega)
    rw [← HD.out.2.2.2.1] at hc
    go_wp2_with fail
    refine hc.mono ?_; rintro e w' ⟨rfl, hw'⟩; obtain rfl := hw'.symm; clear hc hw'
    have hc := rightO v2 b kb w3 OB.out.ls (by have := HLA.out; omega) (by have := HD.out; omega)
    rw [HD.out.2.1] at hc
    go_wp2_with fail
    refine hc.mono ?_; rintro e w4 ⟨v4, bb2, rfl, hO, hk⟩
    replace OB : Hid (Own w4 w0.heap.size v4 (dig b1)) := hO.mono K0.out.size
    replace OA : Hid (Own w4 w0.heap.size v3 (dig a1)) := OA.out.kp hk
    replace K0 : Hid (Kp w0 w4) := K0.out.trans hk
    clear hc hO hk
    by_cases cx : 0 < ex
    · have hx9 : ex = (x : Int) := by have := HX.out; omega
      have hc := leftO v3 a1 x w4 OA.out.ls HB1.out.1 HB1.out.2.2.1
      rw [← hx9] at hc
      have t1 : 0 < ex := cx
      have t2 : ¬ ex < 0 := by omega
      have HY0 : Hid (y = 0) := by have := HX.out; show _ = _; omega
      clear hx9 cx
      go_wp2_with fail
      try rw [g2]
      refine hc.mono ?_; rintro e w5 ⟨v5, rfl, hO, hk⟩
      have ON : Hid (Own w5 w0.heap.size v5 (dig (a1 * 2 ^ x))) := hO.mono K0.out.size
      have OD : Hid (Own w5 w0.heap.size v4 (dig (b1 * 2 ^ y))) := by rw [HY0.out, Nat.pow_zero, Nat.mul_one]; exact OB.out.kp hk
      replace K0 : Hid (Kp w0 w5) := K0.out.trans hk
      clear hc hO hk OA OB
      obtain ⟨pN, cN, hvN, _⟩ := ON.out.len
      obtain ⟨NN, hNN⟩ : ∃ NN, NN = (dig (a1 * 2 ^ x)).length := ⟨_, rfl⟩
      rw [← hNN] at hvN
      subst hvN
      clear hNN
      obtain ⟨pD, cD, hvD, _⟩ := OD.out.len
      obtain ⟨ND, hND⟩ : ∃ ND, ND = (dig (b1 * 2 ^ y)).length := ⟨_, rfl⟩
      rw [← hND] at hvD
      subst hvD
      clear hND
      have hlt : w.heap.size < w0.heap.size := by rw [Hw0.out]; simp
      have k0 := kkeep K0.out (b := w.heap.size) (o := 0) (v := .bool false) (by rw [Hw0.out]; simp [go_sem])
      have z0 : w5.frozen? ⟨w.heap.size, 0, none⟩ = false := by rw [Below.frozen K0.out hlt, Hw0.out]; simp [go_sem]
      have k1 := kkeep K0.out (b := w.heap.size) (o := 1) (v := .slice none 0 0) (by rw [Hw0.out]; simp [go_sem])
      have z1 : w5.frozen? ⟨w.heap.size, 1, none⟩ = false := by rw [Below.frozen K0.out hlt, Hw0.out]; simp [go_sem]
      have k2 := kkeep K0.out (b := w.heap.size) (o := 2) (v := .slice none 0 0) (by rw [Hw0.out]; simp [go_sem])
      have z2 : w5.frozen? ⟨w.heap.size, 2, none⟩ = false := by rw [Below.frozen K0.out hlt, Hw0.out]; simp [go_sem]
      have hk9 : Kp w w0 := by rw [Hw0.out]; exact (Kp.refl w).alloc _
      have hk0 : Kp w w5 := hk9.trans K0.out
      have HZ : Hid (Own (((w5.setCell ⟨w.heap.size, 0, none⟩ (.bool neg)).setCell ⟨w.heap.size, 1, none⟩ (.slice pN NN cN)).setCell ⟨w.heap.size, 2, none⟩ (.slice pD ND cD)) w.heap.size (.slice pN NN cN) (dig (a1 * 2 ^ x)) ∧ Own (((w5.setCell ⟨w.heap.size, 0, none⟩ (.bool neg)).setCell ⟨w.heap.size, 1, none⟩ (.slice pN NN cN)).setCell ⟨w.heap.size, 2, none⟩ (.slice pD ND cD)) w.heap.size (.slice pD ND cD) (dig (b1 * 2 ^ y)) ∧ Kp w (((w5.setCell ⟨w.heap.size, 0, none⟩ (.bool neg)).setCell ⟨w.heap.size, 1, none⟩ (.slice pN NN cN)).setCell ⟨w.heap.size, 2, none⟩ (.slice pD ND cD))) := ⟨((((ON.out.setOther hlt (.bool neg)).setOther hlt (.slice pN NN cN)).setOther hlt (.slice pD ND cD))).mono (Nat.le_of_lt hlt), ((((OD.out.setOther hlt (.bool neg)).setOther hlt (.slice pN NN cN)).setOther hlt (.slice pD ND cD))).mono (Nat.le_of_lt hlt), (((hk0.setCell (Nat.le_refl _) (.bool neg)).setCell (Nat.le_refl _) (.slice pN NN cN)).setCell (Nat.le_refl _) (.slice pD ND cD))⟩
      clear hk0 hlt hk9
      go_wp2
      exact bodyPost_ret (v := .agg #[.bool neg, .slice pN NN cN, .slice pD ND cD]) (by simp [results, Tryz.results71, go_sem] <;> simp [go_sem, *]) rfl ⟨_, _, a1 * 2 ^ x, b1 * 2 ^ y, neg, rfl, HZ.out.1, HZ.out.2.1, ⟨HFR.out, fun _ => rfl⟩, HZ.out.2.2⟩
    · by_cases cx2 : ex < 0
      · have hx9 : wrap64 (-ex) = (y : Int) := by rw [show -ex = (y : Int) from by have := HX.out; omega]; exact w64x _ (by omega) (by have := HB1.out; omega)
        have hc := leftO v4 b1 y w4 OB.out.ls HB1.out.2.1 HB1.out.2.2.2
        have t1 : ¬ 0 < ex := by omega
        have t2 : ex < 0 := cx2
        have HY0 : Hid (x = 0) := by have := HX.out; show _ = _; omega
        clear cx cx2
        go_wp2_with fail
        try rw [g2]
        try rw [hx9]
        refine hc.mono ?_; rintro e w5 ⟨v5, rfl, hO, hk⟩
        have OD : Hid (Own w5 w0.heap.size v5 (dig (b1 * 2 ^ y))) := hO.mono K0.out.size
        have ON : Hid (Own w5 w0.heap.size v3 (dig (a1 * 2 ^ x))) := by rw [HY0.out, Nat.pow_zero, Nat.mul_one]; exact OA.out.kp hk
        replace K0 : Hid (Kp w0 w5) := K0.out.trans hk
        clear hc hO hk OA OB
        obtain ⟨pN, cN, hvN, _⟩ := ON.out.len
        obtain ⟨NN, hNN⟩ : ∃ NN, NN = (dig (a1 * 2 ^ x)).length := ⟨_, rfl⟩
        rw [← hNN] at hvN
        subst hvN
        clear hNN
        obtain ⟨pD, cD, hvD, _⟩ := OD.out.len
        obtain ⟨ND, hND⟩ : ∃ ND, ND = (dig (b1 * 2 ^ y)).length := ⟨_, rfl⟩
        rw [← hND] at hvD
        subst hvD
        clear hND
        have hlt : w.heap.size < w0.heap.size := by rw [Hw0.out]; simp
        have k0 := kkeep K0.out (b := w.heap.size) (o := 0) (v := .bool false) (by rw [Hw0.out]; simp [go_sem])
        have z0 : w5.frozen? ⟨w.heap.size, 0, none⟩ = false := by rw [Below.frozen K0.out hlt, Hw0.out]; simp [go_sem]
        have k1 := kkeep K0.out (b := w.heap.size) (o := 1) (v := .slice none 0 0) (by rw [Hw0.out]; simp [go_sem])
        have z1 : w5.frozen? ⟨w.heap.size, 1, none⟩ = false := by rw [Below.frozen K0.out hlt, Hw0.out]; simp [go_sem]
        have k2 := kkeep K0.out (b := w.heap.size) (o := 2) (v := .slice none 0 0) (by rw [Hw0.out]; simp [go_sem])
        have z2 : w5.frozen? ⟨w.heap.size, 2, none⟩ = false := by rw [Below.frozen K0.out hlt, Hw0.out]; simp [go_sem]
        have hk9 : Kp w w0 := by rw [Hw0.out]; exact (Kp.refl w).alloc _
        have hk0 : Kp w w5 := hk9.trans K0.out
        have HZ : Hid (Own (((w5.setCell ⟨w.heap.size, 0, none⟩ (.bool neg)).setCell ⟨w.heap.size, 1, none⟩ (.slice pN NN cN)).setCell ⟨w.heap.size, 2, none⟩ (.slice pD ND cD)) w.heap.size (.slice pN NN cN) (dig (a1 * 2 ^ x)) ∧ Own (((w5.setCell ⟨w.heap.size, 0, none⟩ (.bool neg)).setCell ⟨w.heap.size, 1, none⟩ (.slice pN NN cN)).setCell ⟨w.heap.size, 2, none⟩ (.slice pD ND cD)) w.heap.size (.slice pD ND cD) (dig (b1 * 2 ^ y)) ∧ Kp w (((w5.setCell ⟨w.heap.size, 0, none⟩ (.bool neg)).setCell ⟨w.heap.size, 1, none⟩ (.slice pN NN cN)).setCell ⟨w.heap.size, 2, none⟩ (.slice pD ND cD))) := ⟨((((ON.out.setOther hlt (.bool neg)).setOther hlt (.slice pN NN cN)).setOther hlt (.slice pD ND cD))).mono (Nat.le_of_lt hlt), ((((OD.out.setOther hlt (.bool neg)).setOther hlt (.slice pN NN cN)).setOther hlt (.slice pD ND cD))).mono (Nat.le_of_lt hlt), (((hk0.setCell (Nat.le_refl _) (.bool neg)).setCell (Nat.le_refl _) (.slice pN NN cN)).setCell (Nat.le_refl _) (.slice pD ND cD))⟩
        clear hk0 hlt hk9
        go_wp2
        exact bodyPost_ret (v := .agg #[.bool neg, .slice pN NN cN, .slice pD ND cD]) (by simp [results, Tryz.results71, go_sem] <;> simp [go_sem, *]) rfl ⟨_, _, a1 * 2 ^ x, b1 * 2 ^ y, neg, rfl, HZ.out.1, HZ.out.2.1, ⟨HFR.out, fun _ => rfl⟩, HZ.out.2.2⟩
      · have t1 : ¬ 0 < ex := by omega
        have t2 : ¬ ex < 0 := cx2
        have HY0 : Hid (x = 0 ∧ y = 0) := by have := HX.out; exact ⟨by omega, by omega⟩
        clear cx cx2
        have ON : Hid (Own w4 w0.heap.size v3 (dig (a1 * 2 ^ x))) := by rw [HY0.out.1, Nat.pow_zero, Nat.mul_one]; exact OA.out
        have OD : Hid (Own w4 w0.heap.size v4 (dig (b1 * 2 ^ y))) := by rw [HY0.out.2, Nat.pow_zero, Nat.mul_one]; exact OB.out
        clear OA OB
        obtain ⟨pN, cN, hvN, _⟩ := ON.out.len
        obtain ⟨NN, hNN⟩ : ∃ NN, NN = (dig (a1 * 2 ^ x)).length := ⟨_, rfl⟩
        rw [← hNN] at hvN
        subst hvN
        clear hNN
        obtain ⟨pD, cD, hvD, _⟩ := OD.out.len
        obtain ⟨ND, hND⟩ : ∃ ND, ND = (dig (b1 * 2 ^ y)).length := ⟨_, rfl⟩
        rw [← hND] at hvD
        subst hvD
        clear hND
        have hlt : w.heap.size < w0.heap.size := by rw [Hw0.out]; simp
        have k0 := kkeep K0.out (b := w.heap.size) (o := 0) (v := .bool false) (by rw [Hw0.out]; simp [go_sem])
        have z0 : w4.frozen? ⟨w.heap.size, 0, none⟩ = false := by rw [Below.frozen K0.out hlt, Hw0.out]; simp [go_sem]
        have k1 := kkeep K0.out (b := w.heap.size) (o := 1) (v := .slice none 0 0) (by rw [Hw0.out]; simp [go_sem])
        have z1 : w4.frozen? ⟨w.heap.size, 1, none⟩ = false := by rw [Below.frozen K0.out hlt, Hw0.out]; simp [go_sem]
        have k2 := kkeep K0.out (b := w.heap.size) (o := 2) (v := .slice none 0 0) (by rw [Hw0.out]; simp [go_sem])
        have z2 : w4.frozen? ⟨w.heap.size, 2, none⟩ = false := by rw [Below.frozen K0.out hlt, Hw0.out]; simp [go_sem]
        have hk9 : Kp w w0 := by rw [Hw0.out]; exact (Kp.refl w).alloc _
        have hk0 : Kp w w4 := hk9.trans K0.out
        have HZ : Hid (Own (((w4.setCell ⟨w.heap.size, 0, none⟩ (.bool neg)).setCell ⟨w.heap.size, 1, none⟩ (.slice pN NN cN)).setCell ⟨w.heap.size, 2, none⟩ (.slice pD ND cD)) w.heap.size (.slice pN NN cN) (dig (a1 * 2 ^ x)) ∧ Own (((w4.setCell ⟨w.heap.size, 0, none⟩ (.bool neg)).setCell ⟨w.heap.size, 1, none⟩ (.slice pN NN cN)).setCell ⟨w.heap.size, 2, none⟩ (.slice pD ND cD)) w.heap.size (.slice pD ND cD) (dig (b1 * 2 ^ y)) ∧ Kp w (((w4.setCell ⟨w.heap.size, 0, none⟩ (.bool neg)).setCell ⟨w.heap.size, 1, none⟩ (.slice pN NN cN)).setCell ⟨w.heap.size, 2, none⟩ (.slice pD ND cD))) := ⟨((((ON.out.setOther hlt (.bool neg)).setOther hlt (.slice pN NN cN)).setOther hlt (.slice pD ND cD))).mono (Nat.le_of_lt hlt), ((((OD.out.setOther hlt (.bool neg)).setOther hlt (.slice pN NN cN)).setOther hlt (.slice pD ND cD))).mono (Nat.le_of_lt hlt), (((hk0.setCell (Nat.le_refl _) (.bool neg)).setCell (Nat.le_refl _) (.slice pN NN cN)).setCell (Nat.le_refl _) (.slice pD ND cD))⟩
        clear hk0 hlt hk9
        go_wp2
        exact bodyPost_ret (v := .agg #[.bool neg, .slice pN NN cN, .slice pD ND cD]) (by simp [results, Tryz.results71, go_sem] <;> simp [go_sem, *]) rfl ⟨_, _, a1 * 2 ^ x, b1 * 2 ^ y, neg, rfl, HZ.out.1, HZ.out.2.1, ⟨HFR.out, fun _ => rfl⟩, HZ.out.2.2⟩
end Go.Proofs.YteedfmghgkmofaaGreatDoor
