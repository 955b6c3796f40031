import Derived.Test.YtakcpoapokacgabDoorProg
import Derived.Test.YtakcpoapokacgabDoorA
import Derived.Test.YtakcpoapokacgabDoorA2
import Derived.Test.YtakcpoapokacgabDoorA5
import Derived.Test.YtakcpoapokacgabDoorMN
import Derived.Test.YtakcpoapokacgabDoorMV
import Derived.WalkKit
import Derived.ProofKit
import Derived.RowKit3
import Derived.WalkSpells
import Derived.StillTactics
import Derived.Deep.QuietTactic
import Derived.BigQuiet
import Derived.Below
import Derived.Deep.OwnRows
namespace Go.Proofs.YtakcpoapokacgabDoor
open Go.RowKit
set_option maxRecDepth 20000 in
set_option maxHeartbeats 1000000 in
theorem place_ (g n b c : Nat) (us ts gs : List Int) (w : World) (hr : Rw w g n (us ++ gs)) (hl : us.length = ts.length) (hn : (us ++ gs).length = n) (ht : ∀ j, j < ts.length → w.cell? ⟨b, j, none⟩ = some (.int .u32 (ts.getD j 0))) (hb : b ≠ g) (lx : us.length ≤ 1099511627776) :
    Calls Tryd.prog 13 #[.slice (some ⟨g, 0, none⟩) us.length n, .slice (some ⟨b, 0, none⟩) ts.length c] w fun e w' => ∃ v, e = .returned v ∧ Rw w' g n (ts ++ gs) ∧ Kb g w w' := by
  obtain ⟨N, hN⟩ : ∃ N, N = us.length := ⟨_, rfl⟩
  rw [← hN] at lx
  rw [← hl, ← hN]
  have HT : Hid (∀ j, j < ts.length → w.cell? ⟨b, j, none⟩ = some (.int .u32 (ts.getD j 0))) := ht
  have HN : Hid (N = us.length ∧ us.length = ts.length ∧ (us ++ gs).length = n) := ⟨hN, hl, hn⟩
  have h0 : w.rowIs g 37 n (fun j => .int .u32 (if j < 0 then ts.getD j 0 else (us ++ gs).getD j 0)) := World.rowIs.congr hr (fun j _ => by rw [if_neg (by omega)])
  clear hN hl hn ht hr
  go_enter Tryd.func13, Tryd.ntmps13
  go_wp2
  go_loopw [4] (fun i wr => ∃ k : Nat, k ≤ N ∧ i = .int .i64 k ∧ Kb g w wr ∧ wr.rowIs g 37 n (fun j => .int .u32 (if j < k then ts.getD j 0 else (us ++ gs).getD j 0))) (fun i _ => N - (intOf i).toNat)
  case atStart => exact ⟨0, Nat.zero_le _, rfl, Kb.refl _ _, h0⟩
  case round =>
    clear h0
    obtain ⟨k, hk, rfl, hkb, hrow⟩ := hrel
    obtain ⟨hN, hl, hn⟩ := HN.out
    by_cases ck : k < N
    · have hlen : us.length + gs.length = n := by rw [← List.length_append]; exact hn
      have e1 := hkb.arr hb (HT.out k (by omega))
      have e2 := hrow.cell (i := k) (by omega)
      have e3 := hrow.frozen k
      have hst : (wr.setCell ⟨g, k, none⟩ (.int .u32 (ts.getD k 0))).rowIs g 37 n (fun j => .int .u32 (if j < k + 1 then ts.getD j 0 else (us ++ gs).getD j 0)) := by
        refine (hrow.set k (.int .u32 (ts.getD k 0))).congr (fun j _ => ?_)
        by_cases c1 : j = k
        · subst c1; rw [if_pos rfl, if_pos (by omega)]
        · rw [if_neg c1]
          by_cases c2 : j < k
          · rw [if_pos c2, if_pos (by omega)]
          · rw [if_neg c2, if_neg (by omega)]
      have hks := hkb.setCell k (.int .u32 (ts.getD k 0))
      obtain ⟨X, hX⟩ : ∃ X, X = ts.getD k 0 := ⟨_, rfl⟩
      rw [← hX] at e1 hst hks
      have e2' : ∃ v, wr.cell? ⟨g, k, none⟩ = some v := ⟨_, e2⟩
      obtain ⟨V, hV⟩ := e2'
      have i1 : (k : Int) < (N : Int) := by omega
      clear HT HN hN hl hn hX hrow hkb e2 hlen
      go_wp2
      exact ⟨⟨k + 1, by omega, by go_num, hks, hst⟩, by simp [intOf]; omega⟩
    · have hkN : k = N := by omega
      have hrow2 : Rw wr g n (ts ++ gs) := World.rowIs.congr hrow (fun j _ => by
        by_cases c1 : j < k
        · rw [if_pos c1]; simp [List.getD, List.getElem?_append, show j < ts.length from by omega]
        · rw [if_neg c1]
          simp [List.getD, List.getElem?_append, show ¬ j < ts.length from by omega, hl])
      have i1 : ¬ ((k : Int) < (N : Int)) := by omega
      clear hrow hN hl hn HN HT
      go_wp2
      exact bodyPost_end (v := .tuple #[]) (by kernel_rfl) rfl ⟨⟨_, rfl⟩, hrow2, hkb⟩
end Go.Proofs.YtakcpoapokacgabDoor
