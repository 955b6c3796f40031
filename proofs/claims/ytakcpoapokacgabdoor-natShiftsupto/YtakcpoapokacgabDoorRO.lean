import Derived.Test.YtakcpoapokacgabDoorProg
import Derived.Test.YtakcpoapokacgabDoorA
import Derived.Test.YtakcpoapokacgabDoorA2
import Derived.Test.YtakcpoapokacgabDoorA5
import Derived.Test.YtakcpoapokacgabDoorMN
import Derived.Test.YtakcpoapokacgabDoorMV
import Derived.WalkKit
import Derived.ProofKit
import Derived.RowKit3
import Derived.WalkSpells
import Derived.StillTactics
import Derived.Deep.QuietTactic
import Derived.BigQuiet
import Derived.Below
import Derived.Deep.OwnRows
import Derived.Deep.RegionHeld
namespace Go.Proofs.YtakcpoapokacgabDoor
open Go.RowKit
set_option maxRecDepth 20000 in
set_option maxHeartbeats 1000000 in
theorem roomy_ (p : Option Addr) (c : Nat) (xs : List Int) (w : World) (hx : Arr w p xs) (lx : xs.length ≤ 1099511627000) :
    Calls Tryd.prog 9 #[.slice p xs.length c] w fun e w' => ∃ g, e = .returned (.tuple #[.slice (some ⟨g, 0, none⟩) xs.length (xs.length + 80), .slice (some ⟨g, 0, none⟩) (xs.length + 80) (xs.length + 80)]) ∧ w.heap.size ≤ g ∧ Rw w' g (xs.length + 80) (xs ++ gds) ∧ Kp w w' := by
  obtain ⟨N, hN⟩ : ∃ N, N = xs.length := ⟨_, rfl⟩
  rw [← hN] at lx ⊢
  have hmk : ∀ w : World, (Instr.makeSlice 22 (.int .i64 ((N : Int) + 80)) (.int .i64 ((N : Int) + 80))).run Tryd.prog w = .ok (.slice (some ⟨w.heap.size, 0, none⟩) (N + 80) (N + 80)) (w.alloc (.cells (madeCells #[.int .u32 0] (N + 80)) 37)) := by
    have := mk32 (N + 80) (by omega)
    simpa using this
  have HX : Hid (Arr w p xs) := hx
  have HN : Hid (N = xs.length) := hN
  have h0 : (w.alloc (.cells (madeCells #[.int .u32 0] (N + 80)) 37)).rowIs w.heap.size 37 (N + 80) (fun j => .int .u32 (if j < 0 then (xs ++ gds).getD j 0 else 0)) := (World.rowIs_made w (.int .u32 0) (N + 80) 37).congr (fun j _ => by simp)
  have hg0 : Kp w (w.alloc (.cells (madeCells #[.int .u32 0] (N + 80)) 37)) := (Kp.refl w).alloc _
  obtain ⟨g, hg⟩ : ∃ g, g = w.heap.size := ⟨_, rfl⟩
  rw [← hg] at h0
  have HG : Hid (g = w.heap.size) := hg
  clear hN hx
  go_enter Tryd.func9, Tryd.ntmps9
  go_wp2
  rw [← hg]
  clear hg
  go_loopw [5] (fun i wr => ∃ k : Nat, k ≤ N + 80 ∧ i = .int .i64 k ∧ Kp w wr ∧ wr.rowIs g 37 (N + 80) (fun j => .int .u32 (if j < k then (xs ++ gds).getD j 0 else 0))) (fun i _ => N + 80 - (intOf i).toNat)
  case atStart => exact ⟨0, Nat.zero_le _, rfl, hg0, h0⟩
  case round =>
    obtain ⟨k, hk, rfl, hgr, hrow⟩ := hrel
    clear h0 hg0 hmk
    have hN := HN.out
    have e2 := hrow.cell (i := k)
    have e3 := hrow.frozen k
    have hle : w.heap.size ≤ g := by rw [HG.out]; exact Nat.le_refl _
    by_cases ck : k < N
    · obtain ⟨b, off, rfl, hc⟩ := HX.out.at (k := k) (by omega)
      have e1 := kkeep hgr (hc k (by omega))
      have hbg : b ≠ g := by have := cell_lt (hc k (by omega)); have := HG.out; omega
      have e2 := e2 (by omega)
      have e1' : (wr.setCell ⟨g, k, none⟩ (.int .u32 2882343476)).cell? ⟨b, off + k, none⟩ = some (.int .u32 (xs.getD k 0)) := (World.cell?_setCell_far _ _ _ _ (Ne.symm hbg)).trans e1
      have hrow' := hrow.set k (.int .u32 2882343476)
      have e4 := hrow'.cell (i := k) (by omega)
      have e5 := hrow'.frozen k
      have hst := (hrow'.set k (.int .u32 (xs.getD k 0)))
      have hst2 : ((wr.setCell ⟨g, k, none⟩ (.int .u32 2882343476)).setCell ⟨g, k, none⟩ (.int .u32 (xs.getD k 0))).rowIs g 37 (N + 80) (fun j => .int .u32 (if j < k + 1 then (xs ++ gds).getD j 0 else 0)) := hst.congr (fun j _ => by
        by_cases c1 : j = k
        · subst c1; rw [if_pos rfl, if_pos (by omega)]; simp [List.getD, List.getElem?_append, show j < xs.length from by omega]
        · rw [if_neg c1, if_neg c1]
          by_cases c2 : j < k
          · rw [if_pos c2, if_pos (by omega)]
          · rw [if_neg c2, if_neg (by omega)])
      have hgs : Kp w ((wr.setCell ⟨g, k, none⟩ (.int .u32 2882343476)).setCell ⟨g, k, none⟩ (.int .u32 (xs.getD k 0))) := (hgr.setCell hle _).setCell hle _
      obtain ⟨X, hX⟩ : ∃ X, X = xs.getD k 0 := ⟨_, rfl⟩
      rw [← hX] at e1' hst2 hgs
      have i1 : (k : Int) < (N : Int) := by omega
      have i2 : (k : Int) < (N : Int) + 80 := by omega
      clear hc HX HN HG hN hX hrow hgr e1 hrow' hst
      go_wp2
      exact ⟨⟨k + 1, by omega, by go_num, hgs, hst2⟩, by simp [intOf]; omega⟩
    · by_cases cm : k < N + 80
      · have e2 := e2 cm
        have hst : (wr.setCell ⟨g, k, none⟩ (.int .u32 2882343476)).rowIs g 37 (N + 80) (fun j => .int .u32 (if j < k + 1 then (xs ++ gds).getD j 0 else 0)) := (hrow.set k (.int .u32 2882343476)).congr (fun j _ => by
          by_cases c1 : j = k
          · subst c1
            rw [if_pos rfl, if_pos (by omega)]
            have := gds_getD (j - xs.length) (by omega)
            have e : (xs ++ gds).getD j 0 = gds.getD (j - xs.length) 0 := by simp [List.getD, List.getElem?_append, show ¬ j < xs.length from by omega]
            rw [e, this]
          · rw [if_neg c1]
            by_cases c2 : j < k
            · rw [if_pos c2, if_pos (by omega)]
            · rw [if_neg c2, if_neg (by omega)])
        have hgs : Kp w (wr.setCell ⟨g, k, none⟩ (.int .u32 2882343476)) := hgr.setCell hle _
        have i1 : ¬ ((k : Int) < (N : Int)) := by omega
        have i2 : (k : Int) < (N : Int) + 80 := by omega
        clear HX HN HG hN hrow hgr
        go_wp2
        exact ⟨⟨k + 1, by omega, by go_num, hgs, hst⟩, by simp [intOf]; omega⟩
      · have hkN : k = N + 80 := by omega
        have hrow2 : Rw wr g (N + 80) (xs ++ gds) := hrow.congr (fun j hj => by rw [if_pos (by omega)])
        have i2 : ¬ ((k : Int) < (N : Int) + 80) := by omega
        clear hrow hN HN HX HG e2 e3
        go_wp2
        exact bodyPost_ret (v := .tuple #[.slice (some ⟨g, 0, none⟩) N (N + 80), .slice (some ⟨g, 0, none⟩) (N + 80) (N + 80)]) (by simp [results, Tryd.results9, go_sem] <;> simp only [*]) rfl ⟨g, rfl, hle, hrow2, hgr⟩
end Go.Proofs.YtakcpoapokacgabDoor
