import Derived.Test.YtcckdceijgdgoaaKPKa
import Derived.Test.YtcckdceijgdgoaaKQA
namespace Go.Proofs.Ytcckdceijgdgoaa
open Go.RowKit
open Go
namespace B8
set_option maxRecDepth 20000 in
theorem slm (g o k m n c : Nat) (h : k + m ≤ c) (hm : 0 < m) (w : World) : (Instr.slice 35 (.slice (some ⟨g, o, none⟩) n c) (some (.int .i64 (k : Int))) (some (.int .i64 ((k : Int) + (m : Int)))) (some (.int .i64 ((k : Int) + (m : Int))))).run Try.prog w = .ok (.slice (some ⟨g, o + k, none⟩) m m) w := by
  rw [run_slice_lhm w 35 (some ⟨g, o, none⟩) n c Try.underlying35 .i64 .i64 .i64 (k : Int) ((k : Int) + (m : Int)) ((k : Int) + (m : Int)) (by omega) (by omega) (by omega) (by omega)]
  have e : (sizeOf (Try.prog.elem 35)).run Try.prog w = .ok 1 w := by kernel_rfl
  have e2 : ((k : Int) + (m : Int)).toNat - k = m := by omega
  have e3 : ¬ ((k : Int) + (m : Int)).toNat = k := by omega
  rw [e]
  simp [Result.andThen, sliced, e2, e3, addr_add]
set_option maxRecDepth 20000 in
set_option maxHeartbeats 400000 in
theorem cut_ (g o n c k m : Nat) (h : k + m ≤ c) (hm : 0 < m) (hc : k + m ≤ 1099511627776) (w : World) : Calls Try.prog 29 #[.slice (some ⟨g, o, none⟩) n c, .int .i64 (k : Int), .int .i64 (m : Int)] w fun e w' => e = .returned (.slice (some ⟨g, o + k, none⟩) m m) ∧ w' = w := by
  have hsl := slm g o k m n c h hm
  have h1 : (k : Int) + (m : Int) ≤ 1099511627776 := by omega
  clear h hm hc
  go_enter Try.func29, Try.ntmps29
  go_wp2
  exact bodyPost_ret (v := .slice (some ⟨g, o + k, none⟩) m m) (by simp [results, Try.results29, go_sem]) rfl ⟨rfl, rfl⟩
set_option maxRecDepth 20000 in
set_option maxHeartbeats 1000000 in
theorem lay_ (g o n c X : Nat) (f : Nat → Value) (w : World) (hr : w.rowIs g 5 n f) (ho : o + 8 ≤ n) : Calls Try.prog 32 #[.slice (some ⟨g, o, none⟩) 8 c, .float .f64 X] w fun e w' => e = .returned (.tuple #[]) ∧ w'.rowIs g 5 n (fun j => if o ≤ j ∧ j < o + 8 then .int .u8 ((by8 X).getD (j - o) 0) else f j) ∧ ∀ W : World, W.heap.size ≤ g → Kp W w → Kp W w' := by
  have hfb := Fq.fb64 X
  have h0 : (w.alloc (.cells #[.int .u8 0, .int .u8 0, .int .u8 0, .int .u8 0, .int .u8 0, .int .u8 0, .int .u8 0, .int .u8 0] 88)).rowIs w.heap.size 88 8 (fun j => .int .u8 (if j < 0 then (by8 X).getD j 0 else 0)) := World.rowIs_alloc w #[.int .u8 0, .int .u8 0, .int .u8 0, .int .u8 0, .int .u8 0, .int .u8 0, .int .u8 0, .int .u8 0] 88 _ (fun i hi => by
    match i, hi with
    | 0, _ | 1, _ | 2, _ | 3, _ | 4, _ | 5, _ | 6, _ | 7, _ => rfl)
  have hg0 : Kp w (w.alloc (.cells #[.int .u8 0, .int .u8 0, .int .u8 0, .int .u8 0, .int .u8 0, .int .u8 0, .int .u8 0, .int .u8 0] 88)) := (Kp.refl w).alloc _
  obtain ⟨G, hG⟩ : ∃ G, G = w.heap.size := ⟨_, rfl⟩
  rw [← hG] at h0
  have HG : Hid (G = w.heap.size) := hG
  have HR : Hid (w.rowIs g 5 n f ∧ o + 8 ≤ n) := ⟨hr, ho⟩
  clear hr ho
  go_enter Try.func32, Try.ntmps32
  go_wp2
  rw [← hG]
  clear hG
  go_loopw [9] (fun i wr => ∃ k : Nat, k ≤ 8 ∧ i = .int .i64 k ∧ Kp w wr ∧ wr.rowIs G 88 8 (fun j => .int .u8 (if j < k then (by8 X).getD j 0 else 0))) (fun i _ => 8 - (intOf i).toNat)
  case atStart => exact ⟨0, Nat.zero_le _, rfl, hg0, h0⟩
  case round =>
    obtain ⟨k, hk, rfl, hgr, hrow⟩ := hrel
    clear h0 hg0
    by_cases ck : k < 8
    · have e2 := hrow.cell ck
      have e3 := hrow.frozen k
      have hst := set_step hrow
      have hgs : Kp w (wr.setCell ⟨G, k, none⟩ (.int .u8 ((by8 X).getD k 0))) := hgr.setCell (by rw [HG.out]; exact Nat.le_refl _) _
      have hv := shr_bt X k
      rw [by8_getD X k ck] at hst hgs
      rw [if_neg (Nat.lt_irrefl k)] at e2
      rw [← hv] at hst hgs
      clear hv
      clear HR HG hk hrow hgr
      go_wp2
      exact ⟨⟨k + 1, by omega, by go_num, hgs, hst⟩, by simp [intOf]; omega⟩
    · have hk8 : k = 8 := by omega
      subst hk8
      obtain ⟨hr, ho⟩ := HR.out
      have ha : Arr wr (some ⟨G, 0, none⟩) (by8 X) := Or.inr ⟨G, 0, rfl, fun j hj => by
        rw [by8_len] at hj
        rw [Nat.zero_add, hrow.cell hj, if_pos hj]⟩
      obtain ⟨w2, hcp, hr2, hkw⟩ := copy8 wr g n o 8 8 c (some ⟨G, 0, none⟩) (by8 X) f (rowIs_grown hr hgr) ha (by8_len X) ho
      have hK : ∀ W : World, W.heap.size ≤ g → Kp W w → Kp W w2 := fun W h1 h2 => hkw W h1 (Kp.trans h2 hgr)
      clear HR HG hk hrow hgr ha hr ho hkw ck hfb
      go_wp2
      exact bodyPost_end (v := .tuple #[]) (by kernel_rfl) rfl ⟨rfl, hr2, hK⟩
end B8
end Go.Proofs.Ytcckdceijgdgoaa
