import Derived.Test.YtbcjhmdkpkmieaaKPKd
import Derived.Test.YtbcjhmdkpkmieaaKPKe
namespace Go.Proofs.Ytbcjhmdkpkmieaa
open Go.RowKit
open Go
namespace B8
set_option maxRecDepth 20000 in
theorem slh (g o h n c : Nat) (hh : h ≤ c) (w : World) : (Instr.slice 22 (.slice (some ⟨g, o, none⟩) n c) none (some (.int .i64 (h : Int))) none).run Try.prog w = .ok (.slice (some ⟨g, o, none⟩) h c) w := by
  rw [run_slice_h w 22 (some ⟨g, o, none⟩) n c Try.underlying22 .i64 (h : Int) (by omega) (by omega)]
  have e : (sizeOf (Try.prog.elem 22)).run Try.prog w = .ok 1 w := by kernel_rfl
  rw [e]
  simp [Result.andThen, sliced, addr_add]
set_option maxRecDepth 20000 in
set_option maxHeartbeats 1000000 in
theorem marked_ (p : Option Addr) (c N : Nat) (xs : List Int) (w : World) (hx : Arr w p xs) (hl : xs.length = N) (lx : N ≤ 1048576) :
    Calls Try.prog 23 #[.slice p N c] w fun e w' => ∃ g d, e = .returned (.tuple #[.slice (some ⟨g, 0, none⟩) N d, .slice (some ⟨g, 0, none⟩) (N + 40) d]) ∧ Own w' w.heap.size (.slice (some ⟨g, 0, none⟩) (N + 40) d) (xs ++ List.replicate 40 201) ∧ N + 40 ≤ d ∧ Kp w w' := by
  have hco := copied_ p c xs w hx (by omega)
  rw [hl] at hco
  obtain ⟨i0, hi0, hi1, hi2, hi3⟩ := inf8p
  have HL : Hid (xs.length = N) := hl
  clear hx hl
  go_enter Try.func23, Try.ntmps23
  go_wp2_with (first | (go_at_call 13; refine hco.mono ?_; rintro e w1 ⟨v0, rfl, o1, k1⟩))
  have o1' : Own w1 w.heap.size v0 (xs ++ List.replicate 0 201) := by simpa using o1
  clear o1 hco
  go_loopw [4, 5] (fun a i wr => ∃ (v : Value) (j : Nat), v = a ∧ j ≤ 40 ∧ i = .int .i64 j ∧ Own wr w.heap.size v (xs ++ List.replicate j 201) ∧ Kp w wr) (fun _ i _ => 40 - (intOf i).toNat)
  case atStart => exact ⟨_, 0, rfl, Nat.zero_le _, rfl, o1', k1⟩
  case round =>
    obtain ⟨v, j, rfl, hj, rfl, hown, hkp⟩ := hrel
    clear o1' k1
    by_cases cj : j < 40
    · have hob := own_block hown
      have hl := HL.out
      have hlen : (xs ++ List.replicate j (201 : Int)).length = N + j := by rw [List.length_append, List.length_replicate, hl]
      have hown' : wr.ownsRow w.heap.size 5 1 v ((xs ++ List.replicate j (201 : Int)).length) ((xs ++ List.replicate j 201).map (Value.int .u8)) := hown
      have hpush : xs ++ List.replicate j (201 : Int) ++ [201] = xs ++ List.replicate (j + 1) 201 := by rw [List.append_assoc, List.replicate_succ']
      have hsz := hkp.size
      clear hown hl HL
      go_wp2_with (first | (at_builtin; refine wpList_append_own _ rfl _ _ 22 rfl w.heap.size 5 i0 (.int .u8 0) 1 1 Try.underlying22 hi0 hi1 hi2 hi3 rfl (by decide) _ _ _ rfl (hown'.alloc _) ⟨wr.heap.size, 0, none⟩ 1 1 [.int .u8 201] rfl rfl ?c1 ?c2 ?c3 ?c4 ?c5 ?_))
      case c1 =>
        intro j' u hj'
        match j', hj' with
        | 0, hj' => simp at hj'; subst hj'; simp [Addr.add]
      case c2 => intro u hu; simp at hu; subst hu; rfl
      case c3 => unfold maxLen; omega
      case c4 => omega
      case c5 => simp; omega
      intro v' w2 hown2 hgrow _
      have hO : Own w2 w.heap.size v' (xs ++ List.replicate (j + 1) 201) := by
        rw [← hpush]
        refine Own.push ?_
        rw [hlen]
        simpa [List.map_append, List.append_assoc] using hown2
      have hK2 : Kp w w2 := (hkp.alloc _).grown hgrow hob
      clear hown2 hgrow hown' hkp hob hsz hpush hlen
      go_wp2
      exact ⟨⟨_, j + 1, rfl, by omega, by go_num, hO, hK2⟩, by simp [intOf]; omega⟩
    · have hjk : j = 40 := by omega
      subst hjk
      have hl := HL.out
      obtain ⟨pv, d, hv, ha, hd⟩ := hown.arr
      rw [show (xs ++ List.replicate 40 (201 : Int)).length = N + 40 from by rw [List.length_append, List.length_replicate, hl]] at hv hd
      obtain ⟨g, rfl⟩ : ∃ g, pv = some ⟨g, 0, none⟩ := by
        rcases hown.2 with ⟨h1, h2⟩ | ⟨g, cap, cur, h1, h2⟩
        · simp at h2
        · rw [hv] at h1; simp at h1; exact ⟨g, h1.1⟩
      subst hv
      have hsl := slh g 0 N (N + 40) d (by omega)
      have f1 : ((N : Int) + 40) - 40 = (N : Int) := by omega
      have f2 : ((N + 40 : Nat) : Int) - 40 = (N : Int) := by omega
      clear HL hl ha hj
      go_wp2
      exact bodyPost_ret (v := .tuple #[.slice (some ⟨g, 0, none⟩) N d, .slice (some ⟨g, 0, none⟩) (N + 40) d]) (by simp [results, Try.results23, go_sem]) rfl ⟨g, d, rfl, hown, hd, hkp⟩
end B8
end Go.Proofs.Ytbcjhmdkpkmieaa
