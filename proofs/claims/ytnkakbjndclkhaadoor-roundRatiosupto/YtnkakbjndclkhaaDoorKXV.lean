import Derived.Test.YtnkakbjndclkhaaDoorProg
import Derived.Test.YtnkakbjndclkhaaDoorKXA0
import Derived.Test.YtnkakbjndclkhaaDoorKXM
import Derived.WalkKit
import Derived.ProofKit
import Derived.RowKit3
import Derived.WalkSpells
import Derived.StillTactics
import Derived.Deep.QuietTactic
import Derived.BigQuiet
import Derived.Below
import Derived.Deep.OwnRows
import Derived.Deep.RegionHeld
import Derived.Deep.DeepCutAuto
import Derived.Laws.BitsAllLaws
namespace Go.Proofs.YtnkakbjndclkhaaDoor
open Go.RowKit
def gdsV : List Int := List.replicate 40 2882343476
theorem gdsV_len : gdsV.length = 40 := List.length_replicate
theorem Wd_gdsV : Wd gdsV := Wd_rep 40 2882343476 (by omega)
theorem gdsV_getD (j : Nat) (h : j < 40) : gdsV.getD j 0 = 2882343476 := by
  have := rep_getD 40 2882343476 j
  rw [if_pos h] at this
  exact this
set_option maxRecDepth 20000 in
set_option maxHeartbeats 1000000 in
theorem roomyV_ (p : Option Addr) (c : Nat) (xs : List Int) (w : World) (hx : Arr w p xs) (lx : xs.length ≤ 1099511627000) :
    Calls Tryd.prog 8 #[.slice p xs.length c] w fun e w' => ∃ g, e = .returned (.tuple #[.slice (some ⟨g, 0, none⟩) xs.length (xs.length + 40), .slice (some ⟨g, 0, none⟩) (xs.length + 40) (xs.length + 40)]) ∧ w.heap.size ≤ g ∧ Rw w' g (xs.length + 40) (xs ++ gdsV) ∧ Kp w w' := by
  obtain ⟨N, hN⟩ : ∃ N, N = xs.length := ⟨_, rfl⟩
  rw [← hN] at lx ⊢
  have hmk : ∀ w : World, (Instr.makeSlice 22 (.int .i64 ((N : Int) + 40)) (.int .i64 ((N : Int) + 40))).run Tryd.prog w = .ok (.slice (some ⟨w.heap.size, 0, none⟩) (N + 40) (N + 40)) (w.alloc (.cells (madeCells #[.int .u32 0] (N + 40)) 41)) := by
    have := mk32 (N + 40) (by omega)
    simpa using this
  have HX : Hid (Arr w p xs) := hx
  have HN : Hid (N = xs.length) := hN
  have h0 : (w.alloc (.cells (madeCells #[.int .u32 0] (N + 40)) 41)).rowIs w.heap.size 41 (N + 40) (fun j => .int .u32 (if j < 0 then (xs ++ gdsV).getD j 0 else 0)) := (World.rowIs_made w (.int .u32 0) (N + 40) 41).congr (fun j _ => by simp)
  have hg0 : Kp w (w.alloc (.cells (madeCells #[.int .u32 0] (N + 40)) 41)) := (Kp.refl w).alloc _
  obtain ⟨g, hg⟩ : ∃ g, g = w.heap.size := ⟨_, rfl⟩
  rw [← hg] at h0
  have HG : Hid (g = w.heap.size) := hg
  clear hN hx
  go_enter Tryd.func8, Tryd.ntmps8
  go_wp2
  rw [← hg]
  clear hg
  go_loopw [5] (fun i wr => ∃ k : Nat, k ≤ N + 40 ∧ i = .int .i64 k ∧ Kp w wr ∧ wr.rowIs g 41 (N + 40) (fun j => .int .u32 (if j < k then (xs ++ gdsV).getD j 0 else 0))) (fun i _ => N + 40 - (intOf i).toNat)
  case atStart => exact ⟨0, Nat.zero_le _, rfl, hg0, h0⟩
  case round =>
    obtain ⟨k, hk, rfl, hgr, hrow⟩ := hrel
    clear h0 hg0 hmk
    have hN := HN.out
    have e2 := hrow.cell (i := k)
    have e3 := hrow.frozen k
    have hle : w.heap.size ≤ g := by rw [HG.out]; exact Nat.le_refl _
    by_cases ck : k < N
    · obtain ⟨b, off, rfl, hc⟩ := HX.out.at (k := k) (by omega)
      have e1 := kkeep hgr (hc k (by omega))
      have hbg : b ≠ g := by have := cell_lt (hc k (by omega)); have := HG.out; omega
      have e2 := e2 (by omega)
      have e1' : (wr.setCell ⟨g, k, none⟩ (.int .u32 2882343476)).cell? ⟨b, off + k, none⟩ = some (.int .u32 (xs.getD k 0)) := (World.cell?_setCell_far _ _ _ _ (Ne.symm hbg)).trans e1
      have hrow' := hrow.set k (.int .u32 2882343476)
      have e4 := hrow'.cell (i := k) (by omega)
      have e5 := hrow'.frozen k
      have hst := (hrow'.set k (.int .u32 (xs.getD k 0)))
      have hst2 : ((wr.setCell ⟨g, k, none⟩ (.int .u32 2882343476)).setCell ⟨g, k, none⟩ (.int .u32 (xs.getD k 0))).rowIs g 41 (N + 40) (fun j => .int .u32 (if j < k + 1 then (xs ++ gdsV).getD j 0 else 0)) := hst.congr (fun j _ => by
        by_cases c1 : j = k
        · subst c1; rw [if_pos rfl, if_pos (by omega)]; simp [List.getD, List.getElem?_append, show j < xs.length from by omega]
        · rw [if_neg c1, if_neg c1]
          by_cases c2 : j < k
          · rw [if_pos c2, if_pos (by omega)]
          · rw [if_neg c2, if_neg (by omega)])
      have hgs : Kp w ((wr.setCell ⟨g, k, none⟩ (.int .u32 2882343476)).setCell ⟨g, k, none⟩ (.int .u32 (xs.getD k 0))) := (hgr.setCell hle _).setCell hle _
      obtain ⟨X, hX⟩ : ∃ X, X = xs.getD k 0 := ⟨_, rfl⟩
      rw [← hX] at e1' hst2 hgs
      have i1 : (k : Int) < (N : Int) := by omega
      have i2 : (k : Int) < (N : Int) + 40 := by omega
      clear hc HX HN HG hN hX hrow hgr e1 hrow' hst
      go_wp2
      exact ⟨⟨k + 1, by omega, by go_num, hgs, hst2⟩, by simp [intOf]; omega⟩
    · by_cases cm : k < N + 40
      · have e2 := e2 cm
        have hst : (wr.setCell ⟨g, k, none⟩ (.int .u32 2882343476)).rowIs g 41 (N + 40) (fun j => .int .u32 (if j < k + 1 then (xs ++ gdsV).getD j 0 else 0)) := (hrow.set k (.int .u32 2882343476)).congr (fun j _ => by
          by_cases c1 : j = k
          · subst c1
            rw [if_pos rfl, if_pos (by omega)]
            have := gdsV_getD (j - xs.length) (by omega)
            have e : (xs ++ gdsV).getD j 0 = gdsV.getD (j - xs.length) 0 := by simp [List.getD, List.getElem?_append, show ¬ j < xs.length from by omega]
            rw [e, this]
          · rw [if_neg c1]
            by_cases c2 : j < k
            · rw [if_pos c2, if_pos (by omega)]
            · rw [if_neg c2, if_neg (by omega)])
        have hgs : Kp w (wr.setCell ⟨g, k, none⟩ (.int .u32 2882343476)) := hgr.setCell hle _
        have i1 : ¬ ((k : Int) < (N : Int)) := by omega
        have i2 : (k : Int) < (N : Int) + 40 := by omega
        clear HX HN HG hN hrow hgr
        go_wp2
        exact ⟨⟨k + 1, by omega, by go_num, hgs, hst⟩, by simp [intOf]; omega⟩
      · have hkN : k = N + 40 := by omega
        have hrow2 : Rw wr g (N + 40) (xs ++ gdsV) := hrow.congr (fun j hj => by rw [if_pos (by omega)])
        have i2 : ¬ ((k : Int) < (N : Int) + 40) := by omega
        clear hrow hN HN HX HG e2 e3
        go_wp2
        exact bodyPost_ret (v := .tuple #[.slice (some ⟨g, 0, none⟩) N (N + 40), .slice (some ⟨g, 0, none⟩) (N + 40) (N + 40)]) (by simp [results, Tryd.results8, go_sem] <;> simp only [*]) rfl ⟨g, rfl, hle, hrow2, hgr⟩
set_option maxRecDepth 20000 in
set_option maxHeartbeats 400000 in
theorem leftV_ (p : Option Addr) (c g : Nat) (us : List Int) (w : World) (hx : Arr w p us) (hr : Rw w g (us.length + 40) (us ++ gdsV)) (lx : us.length ≤ 1048576) :
    Calls Tryd.prog 11 #[.slice p us.length c, .slice (some ⟨g, 0, none⟩) (us.length + 40) (us.length + 40)] w fun e w' => e = .returned (.bool true) ∧ Kp w w' := by
  obtain ⟨N, hN⟩ : ∃ N, N = us.length := ⟨_, rfl⟩
  have HX : Hid (Arr w p us ∧ N = us.length ∧ Rw w g (N + 40) (us ++ gdsV)) := ⟨hx, hN, by rw [hN]; exact hr⟩
  rw [← hN] at lx ⊢
  clear hx hr hN
  go_enter Tryd.func11, Tryd.ntmps11
  go_wp2
  go_loopw [5] (fun i wr => ∃ k : Nat, i = .int .i64 (k : Int) ∧ k ≤ N + 40 ∧ Kp w wr) (fun i _ => N + 40 - (intOf i).toNat)
  case atStart => exact ⟨0, rfl, by omega, Kp.refl _⟩
  case round =>
    obtain ⟨k, rfl, hk, hkp⟩ := hrel
    by_cases c1 : k < N + 40
    · have t0 : (k : Int) < (N : Int) + 40 := by omega
      have hrow : Rw wr g (N + 40) (us ++ gdsV) := HX.out.2.2.grown hkp
      have e2 := hrow.cell (i := k) c1
      have i0 : (0 : Int) ≤ (k : Int) := by omega
      have i1 : ¬ ((N : Int) + 40 ≤ (k : Int)) := by omega
      by_cases c2 : k < N
      · obtain ⟨b, off, rfl, hc⟩ := HX.out.1.at (k := k) (by rw [← HX.out.2.1]; exact c2)
        have e1 := kkeep hkp (hc k (by rw [← HX.out.2.1]; exact c2))
        have e3 : (us ++ gdsV).getD k 0 = us.getD k 0 := by simp [List.getD, List.getElem?_append, show k < us.length from by rw [← HX.out.2.1]; exact c2]
        rw [e3] at e2
        obtain ⟨X, hX⟩ : ∃ X, X = us.getD k 0 := ⟨_, rfl⟩
        rw [← hX] at e1 e2
        have t1 : (k : Int) < (N : Int) := by omega
        have t2 : ¬ ((N : Int) ≤ (k : Int)) := by omega
        have HK : Hid (k ≤ N + 40 ∧ k < N + 40 ∧ Kp w wr ∧ N ≤ 1048576) := ⟨hk, c1, hkp, lx⟩
        have kb : k ≤ 1048616 := by omega
        clear hc e3 hX c1 c2 hk hrow hkp
        go_upto_region 4 with fail
        go_quiet (fail)
        go_wp2
        exact ⟨⟨k + 1, by go_num, by have := HK.out; omega, Kp.drewN _ HK.out.2.2.1⟩, by have := HK.out; simp [intOf]; omega⟩
      · have e3 : (us ++ gdsV).getD k 0 = 2882343476 := by
          have h1 : (us ++ gdsV).getD k 0 = gdsV.getD (k - us.length) 0 := by simp [List.getD, List.getElem?_append, show ¬ k < us.length from by rw [← HX.out.2.1]; exact c2]
          rw [h1]; exact gdsV_getD _ (by rw [← HX.out.2.1]; omega)
        rw [e3] at e2
        have t1 : ¬ ((k : Int) < (N : Int)) := by omega
        have t2 : (N : Int) ≤ (k : Int) := by omega
        have HK : Hid (k ≤ N + 40 ∧ k < N + 40 ∧ Kp w wr ∧ N ≤ 1048576) := ⟨hk, c1, hkp, lx⟩
        have kb : k ≤ 1048616 := by omega
        clear e3 c1 c2 hk hrow hkp
        go_upto_region 4 with fail
        go_quiet (fail)
        go_wp2
        exact ⟨⟨k + 1, by go_num, by have := HK.out; omega, Kp.drewN _ HK.out.2.2.1⟩, by have := HK.out; simp [intOf]; omega⟩
    · have hkN : k = N + 40 := by omega
      have t0 : ¬ ((k : Int) < (N : Int) + 40) := by omega
      clear c1 hk hkN HX
      go_wp2
      exact bodyPost_ret (v := .bool true) (by simp [results, Tryd.results11, go_sem]) rfl ⟨rfl, hkp⟩
theorem xr_range (x y : Int) (hx : 0 ≤ x ∧ x < 4294967296) (hy : 0 ≤ y ∧ y < 4294967296) : 0 ≤ bits BinOp.xor IntKind.u32 x y ∧ bits BinOp.xor IntKind.u32 x y < 4294967296 := by
  obtain ⟨a, rfl⟩ := Int.eq_ofNat_of_zero_le hx.1
  obtain ⟨b, rfl⟩ := Int.eq_ofNat_of_zero_le hy.1
  have h := u32_xor_nat a b (by omega) (by omega)
  rw [h]
  have h2 : a ^^^ b < 2 ^ 32 := Nat.xor_lt_two_pow (by omega) (by omega)
  exact ⟨by omega, by omega⟩
set_option maxRecDepth 20000 in
set_option maxHeartbeats 400000 in
theorem otherV_ (p : Option Addr) (c : Nat) (xs : List Int) (w : World) (hx : Arr w p xs) (hwx : Wd xs) (lx : xs.length ≤ 1048576) :
    Calls Tryd.prog 6 #[.slice p xs.length c] w fun e w' => ∃ g ts, e = .returned (.slice (some ⟨g, 0, none⟩) xs.length (xs.length + 40)) ∧ w.heap.size ≤ g ∧ ts.length = xs.length ∧ Wd ts ∧ Rw w' g (xs.length + 40) (ts ++ gdsV) ∧ Kp w w' := by
  have hco := roomyV_ p c xs w hx (by omega)
  by_cases c0 : xs.length = 0
  · have hnil : xs = [] := List.length_eq_zero_iff.1 c0
    subst hnil
    simp only [List.length_nil] at hco ⊢
    clear hx lx c0
    go_enter Tryd.func6, Tryd.ntmps6
    go_wp2_with fail
    refine hco.mono ?_; rintro e w1 ⟨g, rfl, hg, hr, hk⟩
    have HR : Hid (w.heap.size ≤ g ∧ Rw w1 g (0 + 40) ([] ++ gdsV) ∧ Kp w w1) := ⟨hg, hr, hk⟩
    clear hco hg hr hk
    go_wp2
    exact bodyPost_ret (v := .slice (some ⟨g, 0, none⟩) 0 (0 + 40)) (by simp [results, Tryd.results6, go_sem]) rfl ⟨g, [], rfl, HR.out.1, rfl, Wd.nil, HR.out.2.1, HR.out.2.2⟩
  · obtain ⟨N, hN⟩ : ∃ N, N = xs.length := ⟨_, rfl⟩
    rw [← hN] at hco lx c0 ⊢
    have HN : Hid (N = xs.length ∧ Wd xs) := ⟨hN, hwx⟩
    clear hx hN hwx
    go_enter Tryd.func6, Tryd.ntmps6
    go_wp2_with fail
    refine hco.mono ?_; rintro e w1 ⟨g, rfl, hg, hr, hk⟩
    have hN := HN.out.1
    have hwx := HN.out.2
    obtain ⟨H, hH⟩ : ∃ H, H = N / 2 := ⟨_, rfl⟩
    have hHN : H < N := by omega
    have e1 := World.rowIs.cell hr (i := 0) (by omega)
    have e2 := World.rowIs.frozen hr 0
    have d1 : (xs ++ gdsV).getD 0 0 = xs.getD 0 0 := by simp [List.getD, List.getElem?_append, show 0 < xs.length from by omega]
    rw [d1] at e1
    obtain ⟨v0, hv0⟩ : ∃ v0, v0 = bits BinOp.xor IntKind.u32 (xs.getD 0 0) 1 := ⟨_, rfl⟩
    have hr1 : Rw (w1.setCell ⟨g, 0, none⟩ (.int .u32 v0)) g (N + 40) ((xs ++ gdsV).set 0 v0) := hr.set 0 _ (by simp; omega)
    rw [List.set_append_left _ _ (by omega)] at hr1
    have e3 := World.rowIs.cell hr1 (i := H) (by omega)
    have e4 := World.rowIs.frozen hr1 H
    have d2 : (xs.set 0 v0 ++ gdsV).getD H 0 = (xs.set 0 v0).getD H 0 := by simp [List.getD, List.getElem?_append, show H < xs.length from by omega]
    rw [d2] at e3
    obtain ⟨Y, hY⟩ : ∃ Y, Y = (xs.set 0 v0).getD H 0 := ⟨_, rfl⟩
    obtain ⟨v1, hv1⟩ : ∃ v1, v1 = bits BinOp.xor IntKind.u32 Y 1073741824 := ⟨_, rfl⟩
    have hr2 : Rw ((w1.setCell ⟨g, 0, none⟩ (.int .u32 v0)).setCell ⟨g, H, none⟩ (.int .u32 v1)) g (N + 40) ((xs.set 0 v0 ++ gdsV).set H v1) := hr1.set H _ (by simp; omega)
    rw [List.set_append_left _ _ (by rw [List.length_set]; omega)] at hr2
    have w0 : Wd (xs.set 0 v0) := hwx.set 0 v0 (by rw [hv0]; exact xr_range _ _ (hwx 0) (by decide))
    have w2 : Wd ((xs.set 0 v0).set H v1) := w0.set H v1 (by rw [hv1, hY]; exact xr_range _ _ (w0 H) (by decide))
    have hk2 : Kp w ((w1.setCell ⟨g, 0, none⟩ (.int .u32 v0)).setCell ⟨g, H, none⟩ (.int .u32 v1)) := (hk.setCell hg _).setCell hg _
    rw [← hY] at e3
    have HR : Hid (w.heap.size ≤ g ∧ ((xs.set 0 v0).set H v1).length = N ∧ Wd ((xs.set 0 v0).set H v1) ∧ Rw ((w1.setCell ⟨g, 0, none⟩ (.int .u32 v0)).setCell ⟨g, H, none⟩ (.int .u32 v1)) g (N + 40) ((xs.set 0 v0).set H v1 ++ gdsV) ∧ Kp w ((w1.setCell ⟨g, 0, none⟩ (.int .u32 v0)).setCell ⟨g, H, none⟩ (.int .u32 v1))) := ⟨hg, by rw [List.length_set, List.length_set, hN], w2, hr2, hk2⟩
    obtain ⟨X, hX⟩ : ∃ X, X = xs.getD 0 0 := ⟨_, rfl⟩
    rw [← hX] at e1 hv0
    have f1 : bits BinOp.xor IntKind.u32 X 1 = v0 := hv0.symm
    have f2 : bits BinOp.xor IntKind.u32 Y 1073741824 = v1 := hv1.symm
    have f3 : ((N : Int)).tdiv 2 = (H : Int) := by rw [Int.tdiv_eq_ediv_of_nonneg (by omega)]; omega
    have f3' : (N : Int) / 2 = (H : Int) := by omega
    have f4 : (0 : Int) < (N : Int) := by omega
    have f5 : (H : Int) < (N : Int) := by omega
    have f6 : (0 : Int) ≤ (H : Int) := by omega
    have hb9 : H ≤ 1048576 := by omega
    clear hco hr hk hr1 hr2 hk2 hN HN hwx w0 w2 hX hY hv0 hv1 hH hHN d1 d2 hg
    go_wp2
    exact bodyPost_ret (v := .slice (some ⟨g, 0, none⟩) N (N + 40)) (by simp [results, Tryd.results6, go_sem] <;> simp only [*]) rfl ⟨g, _, rfl, HR.out.1, HR.out.2.1, HR.out.2.2.1, HR.out.2.2.2.1, HR.out.2.2.2.2⟩
/-- the cells that a slice shows, and its block is not g -/
def ArrN (g : Nat) (w : World) (p : Option Addr) (xs : List Int) : Prop := xs = [] ∨ ∃ b off, p = some ⟨b, off, none⟩ ∧ b ≠ g ∧ ∀ j, j < xs.length → w.cell? ⟨b, off + j, none⟩ = some (.int .u32 (xs.getD j 0))
theorem ArrN.at {g : Nat} {w : World} {p : Option Addr} {xs : List Int} (h : ArrN g w p xs) {k : Nat} (hk : k < xs.length) : ∃ b off, p = some ⟨b, off, none⟩ ∧ b ≠ g ∧ ∀ j, j < xs.length → w.cell? ⟨b, off + j, none⟩ = some (.int .u32 (xs.getD j 0)) := by
  rcases h with h | h
  · subst h; simp at hk
  · exact h
theorem ArrN.of {g : Nat} {w w' : World} {p : Option Addr} {xs : List Int} (h : Arr w p xs) (k : Kp w w') (hg : w.heap.size ≤ g) : ArrN g w' p xs := by
  by_cases c : xs.length = 0
  · exact Or.inl (List.length_eq_zero_iff.1 c)
  · obtain ⟨b, off, e, hc⟩ := h.at (k := 0) (by omega)
    refine Or.inr ⟨b, off, e, ?_, fun j hj => kkeep k (hc j hj)⟩
    have := cell_lt (hc 0 (by omega))
    omega
theorem ArrN.kb {g : Nat} {w w' : World} {p : Option Addr} {xs : List Int} (h : ArrN g w p xs) (k : Kb g w w') : ArrN g w' p xs := by
  rcases h with h | ⟨b, off, e, hb, hc⟩
  · exact Or.inl h
  · exact Or.inr ⟨b, off, e, hb, fun j hj => k.arr hb (hc j hj)⟩
theorem ArrN.arr {g : Nat} {w : World} {p : Option Addr} {xs : List Int} (h : ArrN g w p xs) : Arr w p xs := by
  rcases h with h | ⟨b, off, e, hb, hc⟩
  · exact Or.inl h
  · exact Or.inr ⟨b, off, e, hc⟩
theorem ArrN.grown {g : Nat} {w w' : World} {p : Option Addr} {xs : List Int} (h : ArrN g w p xs) (k : Kp w w') : ArrN g w' p xs := by
  rcases h with h | ⟨b, off, e, hb, hc⟩
  · exact Or.inl h
  · exact Or.inr ⟨b, off, e, hb, fun j hj => kkeep k (hc j hj)⟩
theorem row_arr {w : World} {g n : Nat} {xs gs : List Int} (h : Rw w g n (xs ++ gs)) (hn : xs.length ≤ n) : Arr w (some ⟨g, 0, none⟩) xs := by
  refine Or.inr ⟨g, 0, rfl, fun j hj => ?_⟩
  have h2 := World.rowIs.cell h (i := j) (by omega)
  rw [show (xs ++ gs).getD j 0 = xs.getD j 0 from by simp [List.getD, List.getElem?_append, hj]] at h2
  rw [Nat.zero_add]; exact h2
set_option maxRecDepth 20000 in
set_option maxHeartbeats 1000000 in
theorem placeW_ (g n c : Nat) (p : Option Addr) (us ts gs : List Int) (w : World) (hr : Rw w g n (us ++ gs)) (hl : us.length = ts.length) (hn : (us ++ gs).length = n) (ht : ArrN g w p ts) (lx : us.length ≤ 1099511627776) :
    Calls Tryd.prog 12 #[.slice (some ⟨g, 0, none⟩) us.length n, .slice p ts.length c] w fun e w' => ∃ v, e = .returned v ∧ Rw w' g n (ts ++ gs) ∧ Kb g w w' := by
  obtain ⟨N, hN⟩ : ∃ N, N = us.length := ⟨_, rfl⟩
  rw [← hN] at lx
  rw [← hl, ← hN]
  have HT : Hid (ArrN g w p ts) := ht
  have HN : Hid (N = us.length ∧ us.length = ts.length ∧ (us ++ gs).length = n) := ⟨hN, hl, hn⟩
  have h0 : w.rowIs g 41 n (fun j => .int .u32 (if j < 0 then ts.getD j 0 else (us ++ gs).getD j 0)) := World.rowIs.congr hr (fun j _ => by rw [if_neg (by omega)])
  clear hN hl hn ht hr
  go_enter Tryd.func12, Tryd.ntmps12
  go_wp2
  go_loopw [4] (fun i wr => ∃ k : Nat, k ≤ N ∧ i = .int .i64 k ∧ Kb g w wr ∧ wr.rowIs g 41 n (fun j => .int .u32 (if j < k then ts.getD j 0 else (us ++ gs).getD j 0))) (fun i _ => N - (intOf i).toNat)
  case atStart => exact ⟨0, Nat.zero_le _, rfl, Kb.refl _ _, h0⟩
  case round =>
    clear h0
    obtain ⟨k, hk, rfl, hkb, hrow⟩ := hrel
    obtain ⟨hN, hl, hn⟩ := HN.out
    by_cases ck : k < N
    · have hlen : us.length + gs.length = n := by rw [← List.length_append]; exact hn
      obtain ⟨b, off, rfl, hb, hcc⟩ := HT.out.at (k := k) (by omega)
      have e1 := hkb.arr hb (hcc k (by omega))
      have e2 := hrow.cell (i := k) (by omega)
      have e3 := hrow.frozen k
      have hst : (wr.setCell ⟨g, k, none⟩ (.int .u32 (ts.getD k 0))).rowIs g 41 n (fun j => .int .u32 (if j < k + 1 then ts.getD j 0 else (us ++ gs).getD j 0)) := by
        refine (hrow.set k (.int .u32 (ts.getD k 0))).congr (fun j _ => ?_)
        by_cases c1 : j = k
        · subst c1; rw [if_pos rfl, if_pos (by omega)]
        · rw [if_neg c1]
          by_cases c2 : j < k
          · rw [if_pos c2, if_pos (by omega)]
          · rw [if_neg c2, if_neg (by omega)]
      have hks := hkb.setCell k (.int .u32 (ts.getD k 0))
      obtain ⟨X, hX⟩ : ∃ X, X = ts.getD k 0 := ⟨_, rfl⟩
      rw [← hX] at e1 hst hks
      have e2' : ∃ v, wr.cell? ⟨g, k, none⟩ = some v := ⟨_, e2⟩
      obtain ⟨V, hV⟩ := e2'
      have i1 : (k : Int) < (N : Int) := by omega
      clear HT HN hN hl hn hX hrow hkb e2 hlen hcc hb
      go_wp2
      exact ⟨⟨k + 1, by omega, by go_num, hks, hst⟩, by simp [intOf]; omega⟩
    · have hkN : k = N := by omega
      have hrow2 : Rw wr g n (ts ++ gs) := World.rowIs.congr hrow (fun j _ => by
        by_cases c1 : j < k
        · rw [if_pos c1]; simp [List.getD, List.getElem?_append, show j < ts.length from by omega]
        · rw [if_neg c1]
          simp [List.getD, List.getElem?_append, show ¬ j < ts.length from by omega, hl])
      have i1 : ¬ ((k : Int) < (N : Int)) := by omega
      clear hrow hN hl hn HN HT
      go_wp2
      exact bodyPost_end (v := .tuple #[]) (by kernel_rfl) rfl ⟨⟨_, rfl⟩, hrow2, hkb⟩
end Go.Proofs.YtnkakbjndclkhaaDoor
