import Derived.Test.YtipedmnipolmeaaKXQb
namespace Go.Proofs.Ytipedmnipolmeaa
open Go.RowKit
open Go
namespace X7
set_option linter.unusedVariables false
set_option maxRecDepth 20000 in
set_option maxHeartbeats 1000000 in
theorem inbox_ (p : Option Addr) (c : Nat) (ps : List (Nat × Nat)) (w : World) (hx : AG ULV w p ps) (lx : ps.length ≤ 1048576) :
    Calls Try.prog 24 #[.slice p ps.length c] w fun e w' => ∃ v, e = .returned v ∧ OG FLV 71 w' w.heap.size v ps ∧ Kp w w' := by
  obtain ⟨N, hN⟩ : ∃ N, N = ps.length := ⟨_, rfl⟩
  rw [← hN] at lx ⊢
  have HX : Hid (AG ULV w p ps) := hx
  have HN : Hid (N = ps.length) := hN
  obtain ⟨i0, hi0, hi1, hi2, hi3⟩ := infF
  clear hN hx
  go_enter Try.func24, Try.ntmps24
  go_wp2
  go_loopw [3, 4] (fun a i wr => ∃ (v : Value) (j : Nat), v = a ∧ j ≤ N ∧ i = .int .i64 j ∧ OG FLV 71 wr w.heap.size v (ps.take j) ∧ Kp w wr) (fun _ i _ => N - (intOf i).toNat)
  case atStart => exact ⟨_, 0, rfl, Nat.zero_le _, rfl, by simpa using OG.nil FLV 71 w w.heap.size, Kp.refl _⟩
  case round =>
    obtain ⟨v, j, rfl, hj, rfl, hown, hkp⟩ := hrel
    have hN := HN.out
    by_cases cj : j < N
    · obtain ⟨b, off, rfl, hc2⟩ := HX.out.at (k := j) (by omega)
      have e1 : wr.cell? ⟨b, off + j * 2, none⟩ = some (.int .u64 (((ps.getD j (0, 0)).1 : Nat) : Int)) := kkeep hkp (hc2 j (by omega)).1
      have e2 : wr.cell? ⟨b, off + j * 2 + 1, none⟩ = some (.int .u64 (((ps.getD j (0, 0)).2 : Nat) : Int)) := kkeep hkp (hc2 j (by omega)).2
      have hpush := take_push2 ps j (by omega)
      have hlen : (ps.take j).length = j := by rw [List.length_take]; omega
      have hin := in9_ (ps.getD j (0, 0)).1 (ps.getD j (0, 0)).2
      obtain ⟨Y1, hY1⟩ : ∃ Y, Y = (ps.getD j (0, 0)).1 := ⟨_, rfl⟩
      obtain ⟨Y2, hY2⟩ : ∃ Y, Y = (ps.getD j (0, 0)).2 := ⟨_, rfl⟩
      rw [← hY1] at e1 hpush hin
      rw [← hY2] at e2 hpush hin
      have HP : Hid (ps.take j ++ [(Y1, Y2)] = ps.take (j + 1)) := hpush
      generalize (Y1 : Int) = Z1 at e1 hin
      generalize (Y2 : Int) = Z2 at e2 hin
      clear hc2 hY1 hY2 HX HN hpush
      clear hN
      go_wp2_with (first | (go_at_call 45; refine (hin _).mono ?_; rintro e w1 ⟨rfl, g1⟩; have hk1 := Kp.trans hkp g1; have hown1 := hown.kp g1; have hob := og_block hown1; have hsz := hk1.size; have hown' : w1.ownsRow w.heap.size 71 2 v ((ps.take j).length) (flat FLV (ps.take j)) := hown1) | (at_builtin; refine wpList_append_own _ rfl _ _ 29 rfl w.heap.size 71 i0 (.agg #[.float .f64 0, .float .f64 0]) 2 16 Try.underlying29 hi0 hi1 hi2 hi3 rfl (by decide) _ _ _ rfl (hown'.alloc _) ⟨w1.heap.size, 0, none⟩ 1 1 [.float .f64 Y1, .float .f64 Y2] rfl rfl ?c1 ?c2 ?c3 ?c4 ?c5 ?_))
      case c1 =>
        intro j' u hj'
        match j', hj' with
        | 0, hj' => simp at hj'; subst hj'; simp [Addr.add]
        | 1, hj' => simp at hj'; subst hj'; simp [Addr.add]
      case c2 => intro u hu; simp at hu; rcases hu with rfl | rfl <;> rfl
      case c3 => unfold maxLen; omega
      case c4 => omega
      case c5 => simp; omega
      intro v' w2 hown2 hgrow _
      have hO : OG FLV 71 w2 w.heap.size v' (ps.take (j + 1)) := by
        rw [← HP.out]
        refine OG.push ?_
        rw [hlen]
        exact hown2
      have hK2 : Kp w w2 := (hk1.alloc _).grown hgrow hob
      clear hown2 hgrow hown' hkp hob e1 e2 hsz HP hlen hk1 hown1 hown g1
      go_wp2
      exact ⟨⟨_, j + 1, rfl, by omega, by go_num, hO, hK2⟩, by simp [intOf]; omega⟩
    · have hjk : j = N := by omega
      rw [List.take_of_length_le (by omega)] at hown
      clear hN HN HX
      go_wp2
      exact bodyPost_ret (v := v) (by simp [results, Try.results24, go_sem] <;> simp only [*]) rfl ⟨_, rfl, hown, hkp⟩
theorem inbox2_ (p : Option Addr) (c : Nat) (ps : List (Nat × Nat)) (w : World) (hx : AG ULV w p ps) (lx : ps.length ≤ 1048576) :
    Calls Try.prog 24 #[.slice p ps.length c] w fun e w' => ∃ pa ca, e = .returned (.slice pa ps.length ca) ∧ OG FLV 71 w' w.heap.size (.slice pa ps.length ca) ps ∧ Kp w w' := by
  refine (inbox_ p c ps w hx lx).mono ?_
  rintro e w' ⟨v, rfl, ho, hk⟩
  obtain ⟨pa, ca, rfl, -, -⟩ := ho.arr
  exact ⟨pa, ca, rfl, ho, hk⟩
end X7
end Go.Proofs.Ytipedmnipolmeaa
