import Derived.Test.YtbcjhmdkpkmieabKDPackBack0
import Derived.WalkKit
import Derived.ProofKit
import Derived.RowKit3
import Derived.WalkSpells
import Derived.StillTactics
import Derived.Deep.QuietTactic
import Derived.BigQuiet
import Derived.Below
import Derived.Deep.OwnRows
import Derived.OwnWalk
import Derived.Lib.BitFns
import Derived.Deep.RegionHeld3
import Derived.Deep.CutRange
import Derived.Deep.DeepCutAuto
import Derived.Maps.AppendAt
import Derived.Deep.AppendLies
namespace Go.Proofs.Ytbcjhmdkpkmieab
open Go.RowKit
open Go
namespace B8
theorem bv_drop_succ (xs : List Int) (i : Nat) (h : i < xs.length) : bv (xs.drop i) = (xs.getD i 0).toNat + 256 * bv (xs.drop (i + 1)) := by
  rw [List.drop_eq_getElem_cons h, bv]
  simp [List.getD, h]
theorem by8_push (X j : Nat) (h : j < 8) : (by8 X).take j ++ [((bt X j : Nat) : Int)] = (by8 X).take (j + 1) := by
  have hj : j < (by8 X).length := by rw [by8_len]; exact h
  have e := by8_getD X j h
  rw [List.take_add_one, List.getElem?_eq_getElem hj]
  simp [List.getD, hj] at e
  simp [e]
theorem pow_step (X j : Nat) : X / 256 ^ j / 256 = X / 256 ^ (j + 1) := by rw [Nat.div_div_eq_div_mul, Nat.pow_succ]
end B8
end Go.Proofs.Ytbcjhmdkpkmieab
namespace Go.Proofs.Ytbcjhmdkpkmieab
open Go.RowKit
open Go
namespace B8
set_option maxRecDepth 20000 in
set_option maxHeartbeats 1000000 in
theorem joined_ (p q : Option Addr) (c d : Nat) (xs ys : List Int) (w : World) (hx : Arr w p xs) (hy : Arr w q ys) (lx : xs.length ≤ 1099511627776) (ly : ys.length ≤ 1099511627776) :
    Calls Try.prog 58 #[.slice p xs.length c, .slice q ys.length d] w fun e w' => ∃ v, e = .returned v ∧ Own w' w.heap.size v (xs ++ ys) ∧ Kp w w' := by
  have hlx := lx
  have hly := ly
  obtain ⟨N, hN⟩ : ∃ N, N = xs.length := ⟨_, rfl⟩
  obtain ⟨M, hM⟩ : ∃ M, M = ys.length := ⟨_, rfl⟩
  rw [← hN] at lx ⊢
  rw [← hM] at ly ⊢
  have HX : Hid (Arr w p xs) := hx
  have HY : Hid (Arr w q ys) := hy
  have HN : Hid (N = xs.length ∧ M = ys.length) := ⟨hN, hM⟩
  obtain ⟨i0, hi0, hi1, hi2, hi3⟩ := inf8p
  clear hN hM hx hy
  go_enter Try.func58, Try.ntmps58
  go_wp2
  go_loopw [5, 6] (fun a i wr => ∃ (v : Value) (j : Nat), v = a ∧ j ≤ N ∧ i = .int .i64 j ∧ Own wr w.heap.size v (xs.take j) ∧ Kp w wr) (fun _ i _ => N - (intOf i).toNat)
  case atStart => exact ⟨_, 0, rfl, Nat.zero_le _, rfl, by simpa using Own.nil w w.heap.size, Kp.refl _⟩
  case round =>
    obtain ⟨v, j, rfl, hj, rfl, hown, hkp⟩ := hrel
    obtain ⟨hN, hM⟩ := HN.out
    by_cases cj : j < N
    · obtain ⟨b, off, rfl, hc2⟩ := HX.out.at (k := j) (by omega)
      have e2 := kkeep hkp (hc2 j (by omega))
      have hpush := take_push xs j (by omega)
      have hob := own_block hown
      have hlen : (xs.take j).length = j := by rw [List.length_take]; omega
      have hown' : wr.ownsRow w.heap.size 5 1 v ((xs.take j).length) ((xs.take j).map (Value.int .u8)) := hown
      obtain ⟨Y, hY⟩ : ∃ Y, Y = xs.getD j 0 := ⟨_, rfl⟩
      rw [← hY] at e2 hpush
      have hsz := hkp.size
      have hjX : j < xs.length := by omega
      clear hc2 hY HX HY HN hown
      clear hN hM
      go_wp2_with (first | (at_builtin; refine wpList_append_own _ rfl _ _ 35 rfl w.heap.size 5 i0 (.int .u8 0) 1 1 Try.underlying35 hi0 hi1 hi2 hi3 rfl (by decide) _ _ _ rfl (hown'.alloc _) ⟨wr.heap.size, 0, none⟩ 1 1 [.int .u8 Y] rfl rfl ?c1 ?c2 ?c3 ?c4 ?c5 ?_))
      case c1 =>
        intro j' u hj'
        match j', hj' with
        | 0, hj' => simp at hj'; subst hj'; simp [Addr.add]
      case c2 => intro u hu; simp at hu; subst hu; rfl
      case c3 => unfold maxLen; omega
      case c4 => omega
      case c5 => simp; omega
      intro v' w1 hown2 hgrow _
      have hO : Own w1 w.heap.size v' (xs.take (j + 1)) := by
        rw [← hpush]
        unfold Own
        rw [show (xs.take j ++ [Y]).length = j + 1 from by simp only [List.length_append, List.length_take, List.length_cons, List.length_nil]; omega]
        simpa [List.map_append, List.map_take] using hown2
      have hK2 : Kp w w1 := (hkp.alloc _).grown hgrow hob
      clear hown2 hgrow hown' hkp hob e2 hsz hpush hlen
      go_wp2
      exact ⟨⟨_, j + 1, rfl, by omega, by go_num, hO, hK2⟩, by simp [intOf]; omega⟩
    · have hjk : j = N := by omega
      subst hjk
      rw [List.take_of_length_le (by omega)] at hown
      have hown0 : Own wr w.heap.size v (xs ++ ys.take 0) := by simpa using hown
      have hkp0 := hkp
      clear hown hkp hN hM cj hj
      go_wp2
      go_loopw [5, 7] (fun a i wr => ∃ (v : Value) (j : Nat), v = a ∧ j ≤ M ∧ i = .int .i64 j ∧ Own wr w.heap.size v (xs ++ ys.take j) ∧ Kp w wr) (fun _ i _ => M - (intOf i).toNat)
      case atStart => exact ⟨_, 0, rfl, Nat.zero_le _, rfl, hown0, hkp0⟩
      case round =>
        clear hown0 hkp0
        obtain ⟨v, j, rfl, hj, rfl, hown, hkp⟩ := hrel
        obtain ⟨hN, hM⟩ := HN.out
        by_cases cj : j < M
        · obtain ⟨b, off, rfl, hc2⟩ := HY.out.at (k := j) (by omega)
          have e2 := kkeep hkp (hc2 j (by omega))
          have hpush := take_push ys j (by omega)
          have hob := own_block hown
          have hlen : (xs ++ ys.take j).length = xs.length + j := by rw [List.length_append, List.length_take]; omega
          have hown' : wr.ownsRow w.heap.size 5 1 v ((xs ++ ys.take j).length) ((xs ++ ys.take j).map (Value.int .u8)) := hown
          obtain ⟨Y, hY⟩ : ∃ Y, Y = ys.getD j 0 := ⟨_, rfl⟩
          rw [← hY] at e2 hpush
          have hsz := hkp.size
          have hjX : j < ys.length := by omega
          clear hc2 hY HX HY HN hown
          clear hN hM
          go_wp2_with (first | (at_builtin; refine wpList_append_own _ rfl _ _ 35 rfl w.heap.size 5 i0 (.int .u8 0) 1 1 Try.underlying35 hi0 hi1 hi2 hi3 rfl (by decide) _ _ _ rfl (hown'.alloc _) ⟨wr.heap.size, 0, none⟩ 1 1 [.int .u8 Y] rfl rfl ?c1 ?c2 ?c3 ?c4 ?c5 ?_))
          case c1 =>
            intro j' u hj'
            match j', hj' with
            | 0, hj' => simp at hj'; subst hj'; simp [Addr.add]
          case c2 => intro u hu; simp at hu; subst hu; rfl
          case c3 => unfold maxLen; omega
          case c4 => omega
          case c5 => simp; omega
          intro v' w1 hown2 hgrow _
          have hO : Own w1 w.heap.size v' (xs ++ ys.take (j + 1)) := by
            rw [← hpush]
            unfold Own
            rw [show (xs ++ (ys.take j ++ [Y])).length = xs.length + j + 1 from by simp only [List.length_append, List.length_take, List.length_cons, List.length_nil]; omega]
            simpa [List.map_append, List.map_take] using hown2
          have hK2 : Kp w w1 := (hkp.alloc _).grown hgrow hob
          clear hown2 hgrow hown' hkp hob e2 hsz hpush hlen
          go_wp2
          exact ⟨⟨_, j + 1, rfl, by omega, by go_num, hO, hK2⟩, by simp [intOf]; omega⟩
        · have hjk : j = M := by omega
          rw [List.take_of_length_le (by omega)] at hown
          clear hN hM HN HX HY
          go_wp2
          exact bodyPost_ret (v := v) (by simp [results, Try.results58, go_sem] <;> simp only [*]) rfl ⟨_, rfl, hown, hkp⟩
end B8
end Go.Proofs.Ytbcjhmdkpkmieab
namespace Go.Proofs.Ytbcjhmdkpkmieab
open Go.RowKit
open Go
namespace B8
set_option maxRecDepth 20000 in
set_option maxHeartbeats 1000000 in
theorem rnumber_ (X : Nat) (hX : X < 18446744073709551616) (w : World) : Calls Try.prog 59 #[.int .u64 (X : Int)] w fun e w' => ∃ v, e = .returned v ∧ Own w' w.heap.size v (by8 X) ∧ Kp w w' := by
  obtain ⟨i0, hi0, hi1, hi2, hi3⟩ := inf8p
  have HXX : Hid (X < 18446744073709551616) := hX
  clear hX
  go_enter Try.func59, Try.ntmps59
  go_wp2
  go_loopw [0, 3, 4] (fun x a i wr => ∃ (v : Value) (j Z : Nat), v = a ∧ j ≤ 8 ∧ Z = X / 256 ^ j ∧ x = .int .u64 (Z : Int) ∧ i = .int .i64 j ∧ Own wr w.heap.size v ((by8 X).take j) ∧ Kp w wr) (fun _ _ i _ => 8 - (intOf i).toNat)
  case atStart => exact ⟨_, 0, X, rfl, Nat.zero_le _, by simp, rfl, rfl, by simpa using Own.nil w w.heap.size, Kp.refl _⟩
  case round =>
    obtain ⟨v, j, Z, rfl, hj, hZ, rfl, rfl, hown, hkp⟩ := hrel
    by_cases cj : j < 8
    · have hpush := by8_push X j cj
      have hb0 : bt X j = Z % 256 := by rw [hZ]; rfl
      rw [hb0] at hpush
      have hZ2 := pow_step X j
      rw [← hZ] at hZ2
      have hZl : Z < 18446744073709551616 := by rw [hZ]; exact Nat.lt_of_le_of_lt (Nat.div_le_self _ _) HXX.out
      have hob := own_block hown
      have hlen : ((by8 X).take j).length = j := by rw [List.length_take, by8_len]; omega
      have hown' : wr.ownsRow w.heap.size 5 1 v (((by8 X).take j).length) (((by8 X).take j).map (Value.int .u8)) := hown
      have hsz := hkp.size
      have f1 : (Z : Int) % 256 % 256 = ((Z % 256 : Nat) : Int) := by omega
      obtain ⟨Y, hY⟩ : ∃ Y : Int, Y = ((Z % 256 : Nat) : Int) := ⟨_, rfl⟩
      rw [← hY] at hpush f1
      have f2 : (Z : Int) % 256 = Y := by omega
      have f3 : Y % 256 = Y := by omega
      have f4 : IntKind.u64.wrap ((Z : Int) / 256) = ((Z / 256 : Nat) : Int) := by rw [IntKind.wrap_u64]; omega
      have HZ2 : Hid (Z / 256 = X / 256 ^ (j + 1)) := hZ2
      clear hZ2
      clear hZ hZl hown hb0 f1 hY
      go_wp2_with (first | (at_builtin; refine wpList_append_own _ rfl _ _ 35 rfl w.heap.size 5 i0 (.int .u8 0) 1 1 Try.underlying35 hi0 hi1 hi2 hi3 rfl (by decide) _ _ _ rfl (hown'.alloc _) ⟨wr.heap.size, 0, none⟩ 1 1 [.int .u8 Y] rfl rfl ?c1 ?c2 ?c3 ?c4 ?c5 ?_))
      case c1 =>
        intro j' u hj'
        match j', hj' with
        | 0, hj' => simp at hj'; subst hj'; simp [Addr.add]
      case c2 => intro u hu; simp at hu; subst hu; rfl
      case c3 => unfold maxLen; omega
      case c4 => omega
      case c5 => simp; omega
      intro v' w1 hown2 hgrow _
      have hO : Own w1 w.heap.size v' ((by8 X).take (j + 1)) := by
        rw [← hpush]
        refine Own.push ?_
        rw [hlen, List.map_take]; exact hown2
      have hK2 : Kp w w1 := (hkp.alloc _).grown hgrow hob
      clear hown2 hgrow hown' hkp hob hsz hpush hlen
      go_wp2
      exact ⟨⟨_, j + 1, Z / 256, rfl, by omega, HZ2.out, (by first | rfl | rw [f4]), by go_num, hO, hK2⟩, by simp [intOf]; omega⟩
    · have hjk : j = 8 := by omega
      rw [List.take_of_length_le (by rw [by8_len]; omega)] at hown
      clear hZ
      go_wp2
      exact bodyPost_ret (v := v) (by simp [results, Try.results59, go_sem] <;> simp only [*]) rfl ⟨_, rfl, hown, hkp⟩
end B8
end Go.Proofs.Ytbcjhmdkpkmieab
namespace Go.Proofs.Ytbcjhmdkpkmieab
open Go.RowKit
open Go
namespace B8
set_option maxRecDepth 20000 in
set_option maxHeartbeats 1000000 in
theorem rform_ (X Y : Nat) (hX : X < 18446744073709551616) (hY : Y < 18446744073709551616) (w : World) : Calls Try.prog 45 #[.agg #[.int .u64 (X : Int), .int .u64 (Y : Int)]] w fun e w' => ∃ v, e = .returned v ∧ Own w' w.heap.size v (by8 X ++ by8 Y) ∧ Kp w w' := by
  have HN := rnumber_
  have HJ : ∀ (p q : Option Addr) (c d : Nat) (W : World), Arr W p (by8 X) → Arr W q (by8 Y) → Calls Try.prog 58 #[.slice p 8 c, .slice q 8 d] W fun e w' => ∃ v, e = .returned v ∧ Own w' W.heap.size v (by8 X ++ by8 Y) ∧ Kp W w' := by
    intro p q c d W h1 h2
    have := joined_ p q c d (by8 X) (by8 Y) W h1 h2 (by rw [by8_len]; decide) (by rw [by8_len]; decide)
    rw [by8_len, by8_len] at this
    exact this
  go_enter Try.func45, Try.ntmps45
  go_upto_region 1 with fail
  obtain ⟨B, hB⟩ : ∃ B, B = w.heap.size := ⟨_, rfl⟩
  obtain ⟨w0, hw0⟩ : ∃ w0, w0 = w.alloc (.cells #[.int .u64 (X : Int), .int .u64 (Y : Int)] 25) := ⟨_, rfl⟩
  have x0 : w0.cell? ⟨B, 0, none⟩ = some (.int .u64 (X : Int)) := by rw [hw0, hB]; simp [go_sem]
  have x1 : w0.cell? ⟨B, 1, none⟩ = some (.int .u64 (Y : Int)) := by rw [hw0, hB]; simp [go_sem]
  have kw : Kp w w0 := by rw [hw0]; exact (Kp.refl w).alloc _
  rw [← hB, ← hw0]
  clear hw0 hB
  go_region_held3 (fun w' => w'.cell? ⟨B, 0, none⟩ = some (.int .u64 (X : Int)) ∧ w'.cell? ⟨B, 1, none⟩ = some (.int .u64 (Y : Int))) (refine ⟨kkeep (W := w0) ?_ x0, kkeep (W := w0) ?_ x1⟩ <;> ((repeat (first | with_reducible exact kk3 | with_reducible exact kk2 | with_reducible exact kk1 | with_reducible exact Kp.refl _ | with_reducible refine Kp.drew ?_)); done)) (first | (go_at_call 58; have hh := a2; refine (HJ p1 p2 c1 c2 _ ?q1 ?q2).mono ?_; (case q1 => exact a1.grown k12); (case q2 => exact a2); rintro e v3 ⟨v, rfl, o3, k3⟩; have kk3 : Kp w0 v3 := Kp.trans ?q3 k3; (case q3 => ((repeat (first | with_reducible exact kk3 | with_reducible exact kk2 | with_reducible exact kk1 | with_reducible exact Kp.refl _ | with_reducible refine Kp.drew ?_)); done))) | (go_at_call 59; have hh := a1; refine (HN Y hY _).mono ?_; rintro e v2 ⟨v, rfl, o2, k12⟩; have kk2 : Kp w0 v2 := Kp.trans ?q3 k12; (case q3 => ((repeat (first | with_reducible exact kk3 | with_reducible exact kk2 | with_reducible exact kk1 | with_reducible exact Kp.refl _ | with_reducible refine Kp.drew ?_)); done)); obtain ⟨p2, c2, rfl, a2, -⟩ := o2.arr; rw [by8_len]) | (go_at_call 59; refine (HN X hX _).mono ?_; rintro e v1 ⟨v, rfl, o1, k1⟩; have kk1 : Kp w0 v1 := Kp.trans ?q3 k1; (case q3 => ((repeat (first | with_reducible exact kk3 | with_reducible exact kk2 | with_reducible exact kk1 | with_reducible exact Kp.refl _ | with_reducible refine Kp.drew ?_)); done)); obtain ⟨p1, c1, rfl, a1, -⟩ := o1.arr; rw [by8_len]))
  have hO := o3.mono (Nat.le_trans (Below.size kw) (Below.size kk2))
  have hK := Kp.trans kw kk3
  clear o3 k3 kk3 kk2 kk1 a1 a2 o1 o2 k1 k12 HN HJ x0 x1
  go_wp2
  exact bodyPost_ret (v := v) (by simp [results, Try.results45, go_sem] <;> simp only [*]) rfl ⟨_, rfl, hO, hK⟩
end B8
end Go.Proofs.Ytbcjhmdkpkmieab
namespace Go.Proofs.Ytbcjhmdkpkmieab
open Go.RowKit
open Go
namespace B8
set_option maxRecDepth 20000 in
set_option maxHeartbeats 1000000 in
theorem like_ (p q : Option Addr) (c d : Nat) (xs ys : List Int) (w : World) (hx : Arr w p xs) (hy : Arr w q ys) (lx : xs.length ≤ 1099511627776) :
    Calls Try.prog 61 #[.slice p xs.length c, .slice q ys.length d] w fun e w' => e = .returned (.bool (decide (xs = ys))) ∧ Kp w w' := by
  by_cases hl : xs.length = ys.length
  · have d1 : ((xs.length : Int) != (ys.length : Int)) = false := by simp; omega
    obtain ⟨N, hN⟩ : ∃ N, N = xs.length := ⟨_, rfl⟩
    obtain ⟨M, hM⟩ : ∃ M, M = ys.length := ⟨_, rfl⟩
    have HX : Hid (Arr w p xs) := hx
    have HY : Hid (Arr w q ys) := hy
    have HN : Hid (N = xs.length ∧ M = ys.length ∧ N = M ∧ N ≤ 1099511627776) := ⟨hN, hM, by omega, by omega⟩
    rw [← hN, ← hM] at d1 ⊢
    clear hx hy lx hl hN hM
    go_enter Try.func61, Try.ntmps61
    go_wp2
    go_loopw [5] (fun i wr => ∃ k : Nat, k ≤ N ∧ i = .int .i64 k ∧ Kp w wr ∧ xs.take k = ys.take k) (fun i _ => N - (intOf i).toNat)
    case atStart => exact ⟨0, Nat.zero_le _, rfl, Kp.refl _, by simp⟩
    case round =>
      obtain ⟨k, hk, rfl, hg, ht⟩ := hrel
      obtain ⟨hN, hM, hNM, hB⟩ := HN.out
      by_cases ck : k < N
      · obtain ⟨b, off, rfl, hc⟩ := HX.out.at (k := k) (by omega)
        obtain ⟨b', off', rfl, hc'⟩ := HY.out.at (k := k) (by omega)
        have e1 := kkeep hg (hc k (by omega))
        have e2 := kkeep hg (hc' k (by omega))
        have hm : k < M := by omega
        have hst := take_eq_step (xs := xs) (ys := ys) (k := k) (by omega) (by omega) ht
        have hne : xs.getD k 0 ≠ ys.getD k 0 → xs ≠ ys := fun h hh => h (by rw [hh])
        obtain ⟨X, hX⟩ : ∃ X, X = xs.getD k 0 := ⟨_, rfl⟩
        obtain ⟨Y, hY⟩ : ∃ Y, Y = ys.getD k 0 := ⟨_, rfl⟩
        rw [← hX] at e1 hst hne
        rw [← hY] at e2 hst hne
        clear hc hc' HX HY hN hM hNM hk ht hX hY
        by_cases cx : X = Y
        · have t1 : (X != Y) = false := by simp [cx]
          have ht2 := hst cx
          clear hst hne cx
          go_wp2
          refine wp_region_kp (by kernel_rfl) (by kernel_rfl) (fun ι _ G hG hall => ?_)
          have c0 : ∀ n, (G n).cell? ⟨b, off + k, none⟩ = some (.int .u8 X) := fun n => kkeep (hG n) e1
          have c1 : ∀ n, (G n).cell? ⟨b', off' + k, none⟩ = some (.int .u8 Y) := fun n => kkeep (hG n) e2
          repeat (go_big_quiet_step (fail))
          refine wpQuiet_nil ?_
          rintro _ ⟨nq, rfl⟩
          have gq := hG nq
          clear c0 c1 hall
          go_wp2
          refine ⟨⟨k + 1, by omega, by go_num, Kp.trans hg gq, ht2⟩, by simp [intOf]; omega⟩
        · have t1 : (X != Y) = true := by simp [cx]
          have hd := hne cx
          have hd2 : decide (xs = ys) = false := by simp [hd]
          clear hst hne cx hd
          go_wp2
          refine wp_region_kp (by kernel_rfl) (by kernel_rfl) (fun ι _ G hG hall => ?_)
          have c0 : ∀ n, (G n).cell? ⟨b, off + k, none⟩ = some (.int .u8 X) := fun n => kkeep (hG n) e1
          have c1 : ∀ n, (G n).cell? ⟨b', off' + k, none⟩ = some (.int .u8 Y) := fun n => kkeep (hG n) e2
          repeat (go_big_quiet_step (fail))
          refine wpQuiet_nil ?_
          rintro _ ⟨nq, rfl⟩
          have gq := hG nq
          clear c0 c1 hall
          go_wp2
          exact bodyPost_ret (v := .bool false) (by simp [results, Try.results61, go_sem] <;> simp only [*]) rfl ⟨by first | rfl | rw [hd2], Kp.trans hg gq⟩
      · have hkN : k = N := by omega
        have hxy : xs = ys := by
          rw [hkN, hN, List.take_length] at ht
          rw [← hN, hNM, hM, List.take_length] at ht
          exact ht
        have hd2 : decide (xs = ys) = true := by simp [hxy]
        have hk2 : ¬ ((k : Int) < (N : Int)) := by omega
        clear hxy ht hN hM hNM
        go_wp2
        exact bodyPost_ret (v := .bool true) (by simp [results, Try.results61, go_sem] <;> simp only [*]) rfl ⟨by first | rfl | rw [hd2], hg⟩
  · have d1 : ((xs.length : Int) != (ys.length : Int)) = true := by simp; omega
    have hd2 : decide (xs = ys) = false := by
      have : xs ≠ ys := fun h => hl (by rw [h])
      simp [this]
    obtain ⟨N, hN⟩ : ∃ N, N = xs.length := ⟨_, rfl⟩
    obtain ⟨M, hM⟩ : ∃ M, M = ys.length := ⟨_, rfl⟩
    rw [← hN, ← hM] at d1 ⊢
    clear hx hy lx hl hN hM
    go_enter Try.func61, Try.ntmps61
    go_wp2
    exact bodyPost_ret (v := .bool false) (by simp [results, Try.results61, go_sem] <;> simp only [*]) rfl ⟨by first | rfl | rw [hd2], Kp.refl _⟩
end B8
end Go.Proofs.Ytbcjhmdkpkmieab
namespace Go.Proofs.Ytbcjhmdkpkmieab
open Go.RowKit
open Go
namespace B8
theorem h2trd (w : World) (x y : Array Value) (c d : Value) (r s t : TypeId) : Fq.H2 (((w.alloc (.cells x r)).alloc (.cells y s)).alloc (.cells #[c, d] t)) (w.heap.size + 2) c d := by
  unfold Fq.H2; simp [go_sem]
end B8
end Go.Proofs.Ytbcjhmdkpkmieab
namespace Go.Proofs.Ytbcjhmdkpkmieab
open Go.RowKit
open Go
namespace B8
theorem flat_len (f : Nat → Value) : ∀ ps, (flat f ps).length = ps.length * 2
  | [] => rfl
  | q :: r => by simp only [flat, List.length_cons, flat_len f r]; omega
theorem infU0 : (Try.prog.info? 25).map (fun i => (i.zero, i.size, i.bytes)) = some (some (.agg #[.int .u64 0, .int .u64 0]), 2, 16) := by kernel_rfl
theorem infU : ∃ i, Try.prog.info? 25 = some i ∧ i.zero = some (.agg #[.int .u64 0, .int .u64 0]) ∧ i.size = 2 ∧ i.bytes = 16 := info_parts infU0
end B8
end Go.Proofs.Ytbcjhmdkpkmieab
namespace Go.Proofs.Ytbcjhmdkpkmieab
open Go.RowKit
open Go
namespace B8
set_option maxRecDepth 20000 in
set_option maxHeartbeats 1000000 in
theorem taken_ (p : Option Addr) (c o N : Nat) (xs : List Int) (w : World) (hx : Arr w p xs) (hl : xs.length = N) (hw : Wb xs) (ho : o + 8 ≤ N) (hN : N ≤ 1099511627776) : Calls Try.prog 60 #[.slice p N c, .int .i64 (o : Int)] w fun e w' => e = .returned (.int .u64 ((bv ((xs.drop o).take 8) : Nat) : Int)) ∧ w' = w := by
  have HX : Hid (Arr w p xs ∧ xs.length = N ∧ Wb xs ∧ ((xs.drop o).take 8).length = 8 ∧ Wb ((xs.drop o).take 8)) := ⟨hx, hl, hw, by rw [List.length_take, List.length_drop]; omega, (hw.drop o).take 8⟩
  obtain ⟨ys, hys⟩ : ∃ ys, ys = (xs.drop o).take 8 := ⟨_, rfl⟩
  have HY : Hid (ys = (xs.drop o).take 8) := hys
  rw [← hys] at HX ⊢
  clear hx hl hw hys
  go_enter Try.func60, Try.ntmps60
  go_wp2
  go_loop [5, 6] (fun v i => ∃ (k B : Nat), k ≤ 8 ∧ i = .int .i64 ((k : Int) - 1) ∧ v = .int .u64 (B : Int) ∧ B = bv (ys.drop k)) (fun _ i => (intOf i + 1).toNat)
  case atStart => exact ⟨8, 0, Nat.le_refl _, rfl, rfl, by rw [List.drop_of_length_le (by rw [HX.out.2.2.2.1]; exact Nat.le_refl _)]; rfl⟩
  case round =>
    obtain ⟨k, B, hk, rfl, rfl, hB⟩ := hrel
    obtain ⟨hx, hl, hw, hl2, hw2⟩ := HX.out
    rcases k with _ | k
    · rw [List.drop_zero] at hB
      subst hB
      clear HX HY hx hl hw hl2 hw2 hk
      go_wp2
      exact bodyPost_ret (v := .int .u64 ((bv ys : Nat) : Int)) (by simp [results, Try.results60, go_sem]) rfl ⟨rfl, rfl⟩
    · obtain ⟨b, off, rfl, hc⟩ := hx.at (k := o + k) (by omega)
      have e1 := hc (o + k) (by omega)
      have ey : xs.getD (o + k) 0 = ys.getD k 0 := by
        rw [HY.out]; simp [List.getD, List.getElem?_drop, show k < 8 from by omega]
      rw [ey] at e1
      have hy := hw2 k
      have hB2 := bv_drop_succ ys k (by omega)
      rw [← hB] at hB2
      have hBl : bv (ys.drop k) < 18446744073709551616 := by
        have := bv_lt (ys.drop k) (hw2.drop k)
        have h8 : (256 : Nat) ^ (ys.drop k).length ≤ 256 ^ 8 := Nat.pow_le_pow_right (by decide) (by rw [List.length_drop]; omega)
        exact Nat.lt_of_lt_of_le this h8
      obtain ⟨Y, hY⟩ := Int.eq_ofNat_of_zero_le hy.1
      rw [hY] at e1 hB2 hy
      rw [Int.toNat_natCast] at hB2
      obtain ⟨E, hE⟩ : ∃ E, E = bv (ys.drop k) := ⟨_, rfl⟩
      rw [← hE] at hB2 hBl
      have f0 : ((k + 1 : Nat) : Int) - 1 = (k : Int) := by omega
      have f1 : (B : Int) * 256 % 18446744073709551616 = (B : Int) * 256 := by omega
      have f2 : ((B : Int) * 256 + (Y : Int)) % 18446744073709551616 = (B : Int) * 256 + (Y : Int) := by omega
      have hko : (o : Int) + (k : Int) < (N : Int) := by omega
      clear hc HX HY hx hl hw hl2 hw2 hB hY ey
      go_wp2
      exact ⟨⟨k, B * 256 + Y, by omega, rfl, by simp, by rw [← hE]; omega⟩, by simp [intOf]⟩
end B8
end Go.Proofs.Ytbcjhmdkpkmieab
namespace Go.Proofs.Ytbcjhmdkpkmieab
open Go.RowKit
open Go
namespace B8
set_option maxRecDepth 20000 in
set_option maxHeartbeats 1000000 in
theorem rgetN_ (p : Option Addr) (N c : Nat) (t : ((N : Int) != 16) = true) (w : World) : Calls Try.prog 46 #[.slice p N c] w fun e w' => e = .returned (.tuple #[.agg #[.int .u64 0, .int .u64 0], .int .i64 130]) ∧ Kp w w' := by
  go_enter Try.func46, Try.ntmps46
  go_wp2
  exact bodyPost_ret (v := .tuple #[.agg #[.int .u64 0, .int .u64 0], .int .i64 130]) (by simp [results, Try.results46, go_sem]) rfl ⟨rfl, (by repeat (with_reducible (first | assumption | exact Kp.refl _ | apply Kp.drew | apply Kp.alloc | apply Kp.drewN | (refine Kp.setCell ?_ (by first | omega | (simp <;> omega)) _) | (refine Kp.trans ?_ (by assumption)))))⟩
set_option maxRecDepth 20000 in
set_option maxHeartbeats 1000000 in
theorem rgetV_ (p : Option Addr) (c : Nat) (X Y : Int) (w : World) (HT1 : ∀ W : World, Kp w W → Calls Try.prog 60 #[.slice p 16 c, .int .i64 0] W fun e w' => e = .returned (.int .u64 X) ∧ w' = W) (HT2 : ∀ W : World, Kp w W → Calls Try.prog 60 #[.slice p 16 c, .int .i64 8] W fun e w' => e = .returned (.int .u64 Y) ∧ w' = W) (hv : ∀ w : World, Calls Try.prog 40 #[.agg #[.int .u64 X, .int .u64 Y]] w fun e w' => e = .returned (.bool false) ∧ Kp w w') : Calls Try.prog 46 #[.slice p 16 c] w fun e w' => e = .returned (.tuple #[.agg #[.int .u64 0, .int .u64 0], .int .i64 130]) ∧ Kp w w' := by
  go_enter Try.func46, Try.ntmps46
  go_wp2_with (first | (go_at_call_of 60 (Value.int .i64 0); refine (HT1 _ ?qk).mono ?_; (case qk => ((repeat (first | with_reducible exact Kp.refl _ | with_reducible refine Kp.drew ?_ | with_reducible refine Kp.alloc ?_ _)); done)); rintro e w' ⟨rfl, rfl⟩) | (go_at_call_of 60 (Value.int .i64 8); refine (HT2 _ ?ql).mono ?_; (case ql => ((repeat (first | with_reducible exact Kp.refl _ | with_reducible refine Kp.drew ?_ | with_reducible refine Kp.alloc ?_ _)); done)); rintro e w' ⟨rfl, rfl⟩) | (go_at_call 40; refine (hv _).mono ?_; rintro e w2 ⟨rfl, g2⟩; have k2 : Kp w w2 := Kp.trans ((((Kp.refl w).alloc _).alloc _).alloc _) g2; have sr := Fq.H2.keep (Fq.H2.past (Fq.H2.past (Fq.H2.new w (.int .u64 0) (.int .u64 0) 25) #[.int .u64 0, .int .u64 0] 25) #[.int .u64 X, .int .u64 Y] 25) g2; have sz := Fq.H2.keep (Fq.H2.past (h2snd w #[.int .u64 0, .int .u64 0] (.int .u64 0) (.int .u64 0) 25 25) #[.int .u64 X, .int .u64 Y] 25) g2; have sy := Fq.H2.keep (h2trd w #[.int .u64 0, .int .u64 0] #[.int .u64 0, .int .u64 0] (.int .u64 X) (.int .u64 Y) 25 25 25) g2; obtain ⟨r0, r1, r2, r3⟩ := id sr; obtain ⟨z0, z1, z2, z3⟩ := id sz; obtain ⟨y0, y1, y2, y3⟩ := id sy))
  exact bodyPost_ret (v := .tuple #[.agg #[.int .u64 0, .int .u64 0], .int .i64 130]) (by simp [results, Try.results46, go_sem, r0, r1]) rfl ⟨rfl, ((k2.setCell (by simp) _).setCell (by simp) _)⟩
set_option maxRecDepth 20000 in
set_option maxHeartbeats 1000000 in
theorem rgetY_ (p : Option Addr) (c : Nat) (X Y : Int) (w : World) (HT1 : ∀ W : World, Kp w W → Calls Try.prog 60 #[.slice p 16 c, .int .i64 0] W fun e w' => e = .returned (.int .u64 X) ∧ w' = W) (HT2 : ∀ W : World, Kp w W → Calls Try.prog 60 #[.slice p 16 c, .int .i64 8] W fun e w' => e = .returned (.int .u64 Y) ∧ w' = W) (hv : ∀ w : World, Calls Try.prog 40 #[.agg #[.int .u64 X, .int .u64 Y]] w fun e w' => e = .returned (.bool true) ∧ Kp w w') (zs : List Int) (hlz : zs.length = 16) (hf : ∀ w : World, Calls Try.prog 45 #[.agg #[.int .u64 X, .int .u64 Y]] w fun e w' => ∃ v, e = .returned v ∧ Own w' w.heap.size v zs ∧ Kp w w') (hlk : ∀ (q : Option Addr) (d : Nat) (W : World), Kp w W → Arr W q zs → Calls Try.prog 61 #[.slice q 16 d, .slice p 16 c] W fun e w' => e = .returned (.bool true) ∧ Kp W w') : Calls Try.prog 46 #[.slice p 16 c] w fun e w' => e = .returned (.tuple #[.agg #[.int .u64 X, .int .u64 Y], .int .i64 0]) ∧ Kp w w' := by
  go_enter Try.func46, Try.ntmps46
  go_wp2_with (first | (go_at_call_of 60 (Value.int .i64 0); refine (HT1 _ ?qk).mono ?_; (case qk => ((repeat (first | with_reducible exact Kp.refl _ | with_reducible refine Kp.drew ?_ | with_reducible refine Kp.alloc ?_ _)); done)); rintro e w' ⟨rfl, rfl⟩) | (go_at_call_of 60 (Value.int .i64 8); refine (HT2 _ ?ql).mono ?_; (case ql => ((repeat (first | with_reducible exact Kp.refl _ | with_reducible refine Kp.drew ?_ | with_reducible refine Kp.alloc ?_ _)); done)); rintro e w' ⟨rfl, rfl⟩) | (go_at_call 40; refine (hv _).mono ?_; rintro e w2 ⟨rfl, g2⟩; have k2 : Kp w w2 := Kp.trans ((((Kp.refl w).alloc _).alloc _).alloc _) g2; have sr := Fq.H2.keep (Fq.H2.past (Fq.H2.past (Fq.H2.new w (.int .u64 0) (.int .u64 0) 25) #[.int .u64 0, .int .u64 0] 25) #[.int .u64 X, .int .u64 Y] 25) g2; have sz := Fq.H2.keep (Fq.H2.past (h2snd w #[.int .u64 0, .int .u64 0] (.int .u64 0) (.int .u64 0) 25 25) #[.int .u64 X, .int .u64 Y] 25) g2; have sy := Fq.H2.keep (h2trd w #[.int .u64 0, .int .u64 0] #[.int .u64 0, .int .u64 0] (.int .u64 X) (.int .u64 Y) 25 25 25) g2; obtain ⟨r0, r1, r2, r3⟩ := id sr; obtain ⟨z0, z1, z2, z3⟩ := id sz; obtain ⟨y0, y1, y2, y3⟩ := id sy) | (go_at_call 45; refine (hf _).mono ?_; rintro e w3 ⟨v, rfl, o3, g3⟩; have k3 := Kp.trans k2 g3; obtain ⟨p3, c3, rfl, a3, -⟩ := o3.arr; rw [hlz]; replace sr := Fq.H2.keep sr g3; replace sz := Fq.H2.keep sz g3; replace sy := Fq.H2.keep sy g3; clear r0 r1 r2 r3 z0 z1 z2 z3 y0 y1 y2 y3; obtain ⟨r0, r1, r2, r3⟩ := id sr; obtain ⟨z0, z1, z2, z3⟩ := id sz; obtain ⟨y0, y1, y2, y3⟩ := id sy) | (go_at_call 61; refine (hlk _ _ _ k3 a3).mono ?_; rintro e w4 ⟨rfl, g4⟩; have k4 := Kp.trans k3 g4; replace sr := Fq.H2.keep sr g4; replace sz := Fq.H2.keep sz g4; replace sy := Fq.H2.keep sy g4; clear r0 r1 r2 r3 z0 z1 z2 z3 y0 y1 y2 y3; obtain ⟨r0, r1, r2, r3⟩ := id sr; obtain ⟨z0, z1, z2, z3⟩ := id sz; obtain ⟨y0, y1, y2, y3⟩ := id sy))
  exact bodyPost_ret (v := .tuple #[.agg #[.int .u64 X, .int .u64 Y], .int .i64 0]) (by simp [results, Try.results46, go_sem, r0, r1]) rfl ⟨rfl, ((k4.setCell (by simp) _).setCell (by simp) _)⟩
theorem rget_ (p : Option Addr) (c N : Nat) (xs : List Int) (w : World) (hx : Arr w p xs) (hl : xs.length = N) (hw : Wb xs) : Calls Try.prog 46 #[.slice p N c] w fun e w' => e = .returned (.tuple #[.agg #[.int .u64 ((gX xs : Nat) : Int), .int .u64 ((gY xs : Nat) : Int)], .int .i64 (gE xs)]) ∧ Kp w w' := by
  subst hl
  by_cases h : xs.length = 16
  · have l1 : (xs.take 8).length = 8 := by rw [List.length_take]; omega
    have l2 : (xs.drop 8).length = 8 := by rw [List.length_drop]; omega
    have w1 := hw.take 8
    have w2 := hw.drop 8
    have HT1 : ∀ W : World, Kp w W → Calls Try.prog 60 #[.slice p 16 c, .int .i64 0] W fun e w' => e = .returned (.int .u64 ((bv (xs.take 8) : Nat) : Int)) ∧ w' = W := by
      intro W k
      have := taken_ p c 0 16 xs W (hx.grown k) h hw (by decide) (by decide)
      rw [List.drop_zero] at this
      exact this
    have HT2 : ∀ W : World, Kp w W → Calls Try.prog 60 #[.slice p 16 c, .int .i64 8] W fun e w' => e = .returned (.int .u64 ((bv (xs.drop 8) : Nat) : Int)) ∧ w' = W := by
      intro W k
      have := taken_ p c 8 16 xs W (hx.grown k) h hw (by decide) (by decide)
      rw [List.take_of_length_le (by omega)] at this
      exact this
    have hv := rvalid9n_ (bv (xs.take 8)) (bv (xs.drop 8)) (bv_lt8 _ l1 w1) (bv_lt8 _ l2 w2)
    have hf := rform_ (bv (xs.take 8)) (bv (xs.drop 8)) (bv_lt8 _ l1 w1) (bv_lt8 _ l2 w2)
    rw [by8_bv _ l1 w1, by8_bv _ l2 w2, List.take_append_drop] at hf
    have hlk : ∀ (q : Option Addr) (d : Nat) (W : World), Kp w W → Arr W q xs → Calls Try.prog 61 #[.slice q 16 d, .slice p 16 c] W fun e w' => e = .returned (.bool true) ∧ Kp W w' := by
      intro q d W k a
      have := like_ q p d c xs xs W a (hx.grown k) (by rw [h]; decide)
      rw [h, decide_eq_true rfl] at this
      exact this
    rw [h]
    unfold gX gY gE gOk
    rw [decide_eq_true h, Bool.true_and]
    cases hvv : Fq.vld (bv (xs.take 8)) (bv (xs.drop 8))
    · rw [hvv] at hv
      exact rgetV_ p c _ _ w HT1 HT2 hv
    · rw [hvv] at hv
      exact rgetY_ p c _ _ w HT1 HT2 hv xs h hf hlk
  · unfold gX gY gE gOk
    rw [decide_eq_false h, Bool.false_and]
    exact rgetN_ p _ c (by simp; omega) w
end B8
end Go.Proofs.Ytbcjhmdkpkmieab
namespace Go.Proofs.Ytbcjhmdkpkmieab
open Go.RowKit
open Go
namespace B8
set_option maxRecDepth 20000 in
set_option maxHeartbeats 400000 in
set_option maxRecDepth 20000 in
theorem slp (b off l k N c : Nat) (h : l + k ≤ N) (hN : N ≤ c) (hk : 0 < k) (w : World) : (Instr.slice 35 (.slice (some ⟨b, off, none⟩) N c) (some (.int .i64 (l : Int))) (some (.int .i64 ((l + k : Nat) : Int))) none).run Try.prog w = .ok (.slice (some ⟨b, off + l, none⟩) k (c - l)) w := by
  rw [run_slice_lh w 35 (some ⟨b, off, none⟩) N c Try.underlying35 .i64 .i64 (l : Int) ((l + k : Nat) : Int) (by omega) (by omega) (by omega)]
  have e : (sizeOf (Try.prog.elem 35)).run Try.prog w = .ok 1 w := by kernel_rfl
  have e3 : ¬ c = l := by omega
  have e4 : ((l : Int) + (k : Int)).toNat - l = k := by omega
  rw [e]
  simp [Result.andThen, sliced, e3, e4, addr_add]
set_option maxRecDepth 20000 in
set_option maxHeartbeats 1000000 in
theorem rgetboxE_ (p : Option Addr) (c : Nat) (w : World) : Calls Try.prog 26 #[.slice p 0 c] w fun e w' => e = .returned (.tuple #[.slice none 0 0, .int .i64 130]) ∧ Kp w w' := by
  go_enter Try.func26, Try.ntmps26
  go_wp2
  exact bodyPost_ret (v := .tuple #[.slice none 0 0, .int .i64 130]) (by simp [results, Try.results26, go_sem]) rfl ⟨rfl, Kp.refl _⟩
set_option maxRecDepth 20000 in
set_option maxHeartbeats 1000000 in
theorem rgetboxH_ (b off N c : Nat) (D : Int) (hD0 : 0 ≤ D) (hD1 : D < 256) (hN : 0 < N) (hN2 : N ≤ 1048576) (w : World) (hc : w.cell? ⟨b, off, none⟩ = some (.int .u8 D)) (h : 32 < D ∨ (N : Int) ≠ 1 + 16 * D) : Calls Try.prog 26 #[.slice (some ⟨b, off, none⟩) N c] w fun e w' => e = .returned (.tuple #[.slice none 0 0, .int .i64 130]) ∧ Kp w w' := by
  have hwD : IntKind.i64.wrap D = D := by rw [IntKind.wrap_i64]; omega
  have n0 : ((N : Int) == 0) = false := by simp; omega
  by_cases c1 : 32 < D
  · clear h
    go_enter Try.func26, Try.ntmps26
    go_wp2
    exact bodyPost_ret (v := .tuple #[.slice none 0 0, .int .i64 130]) (by simp [results, Try.results26, go_sem]) rfl ⟨rfl, Kp.refl _⟩
  · have h2 : ((N : Int) != 1 + 16 * D) = true := by
      rcases h with h | h
      · exact absurd h c1
      · simpa using h
    clear h
    go_enter Try.func26, Try.ntmps26
    go_wp2
    exact bodyPost_ret (v := .tuple #[.slice none 0 0, .int .i64 130]) (by simp [results, Try.results26, go_sem]) rfl ⟨rfl, Kp.refl _⟩
set_option maxRecDepth 20000 in
set_option maxHeartbeats 2000000 in
theorem rgetboxY_ (b off N M c : Nat) (xs : List Int) (w : World) (hx : Arr w (some ⟨b, off, none⟩) xs) (hl : xs.length = N) (hw : Wb xs) (hc : N ≤ c) (hM : M ≤ 32) (hM2 : xs.getD 0 0 = (M : Int)) (hN : N = 1 + 16 * M) (EV : Int) (LV : List (Nat × Nat)) (hEV : EV = if bAll xs M then 0 else 130) (hLV : LV = if bAll xs M then bP xs M else []) :
    Calls Try.prog 26 #[.slice (some ⟨b, off, none⟩) N c] w fun e w' => ∃ v, e = .returned (.tuple #[v, .int .i64 EV]) ∧ OG ULV 25 w' w.heap.size v LV ∧ Kp w w' := by
  have HV : Hid (EV = (if bAll xs M then 0 else 130) ∧ LV = (if bAll xs M then bP xs M else [])) := ⟨hEV, hLV⟩
  clear hEV hLV
  obtain ⟨b', off', he, hcell⟩ := hx.at (k := 0) (by omega)
  obtain ⟨rfl, rfl⟩ : b = b' ∧ off = off' := by simpa using he
  have hc0 := hcell 0 (by omega)
  rw [hM2, Nat.add_zero] at hc0
  have hn1 : (N : Int) = 1 + 16 * (M : Int) := by omega
  have n0 : ((N : Int) == 0) = false := by simp; omega
  have n1 : ((N : Int) != 1 + 16 * (M : Int)) = false := by simp; omega
  have n2 : ¬ (32 < (M : Int)) := by omega
  obtain ⟨i0, hi0, hi1, hi2, hi3⟩ := infU
  have HG : Hid (∀ (k : Nat) (W : World), k < M → Kp w W → Calls Try.prog 46 #[.slice (some ⟨b, off + (1 + 16 * k), none⟩) 16 (c - (1 + 16 * k))] W fun e w' => e = .returned (.tuple #[.agg #[.int .u64 ((gX (pt xs k) : Nat) : Int), .int .u64 ((gY (pt xs k) : Nat) : Int)], .int .i64 (gE (pt xs k))]) ∧ Kp W w') := by
    show ∀ (k : Nat) (W : World), k < M → Kp w W → Calls Try.prog 46 #[.slice (some ⟨b, off + (1 + 16 * k), none⟩) 16 (c - (1 + 16 * k))] W fun e w' => e = .returned (.tuple #[.agg #[.int .u64 ((gX (pt xs k) : Nat) : Int), .int .u64 ((gY (pt xs k) : Nat) : Int)], .int .i64 (gE (pt xs k))]) ∧ Kp W w'
    intro k W hk kk
    exact rget_ _ _ 16 (pt xs k) W ((Arr.part hcell (1 + 16 * k) 16).grown kk) (pt_len xs k M (by omega) hk) (pt_wb hw k)
  have HM : Hid (N = 1 + 16 * M ∧ M ≤ 32 ∧ N ≤ c) := ⟨hN, hM, hc⟩
  clear hx hl hw hM2 he hcell hN hM
  go_enter Try.func26, Try.ntmps26
  go_wp2
  go_loopw [4, 5] (fun a i wr => ∃ (v : Value) (j : Nat), v = a ∧ j ≤ M ∧ i = .int .i64 j ∧ bAll xs j = true ∧ OG ULV 25 wr w.heap.size v (bP xs j) ∧ Kp w wr) (fun _ i _ => M - (intOf i).toNat)
  case atStart => exact ⟨_, 0, rfl, Nat.zero_le _, rfl, rfl, OG.nil ULV 25 w w.heap.size, Kp.refl _⟩
  case round =>
    obtain ⟨v, j, rfl, hj, rfl, hall, hown, hkp⟩ := hrel
    have hcr := kkeep hkp hc0
    obtain ⟨hN, hM, hc⟩ := HM.out
    by_cases cj : j < M
    · have hg := HG.out j wr cj hkp
      have hsl := slp b off (1 + 16 * j) 16 N c (by omega) hc (by decide)
      have f1 : (1 : Int) + 16 * (j : Int) = ((1 + 16 * j : Nat) : Int) := by omega
      have f2 : (17 : Int) + 16 * (j : Int) = ((1 + 16 * j + 16 : Nat) : Int) := by omega
      have hlen := bP_len xs j
      have HP : Hid (bP xs (j + 1) = bP xs j ++ [(gX (pt xs j), gY (pt xs j))]) := bP_succ xs j
      have HA : Hid (bAll xs (j + 1) = (bAll xs j && gOk (pt xs j))) := bAll_succ xs j
      have HF : Hid (gOk (pt xs j) = false → bAll xs M = false) := fun h => bAll_le xs j M cj h
      have HE : Hid (gE (pt xs j) = if gOk (pt xs j) then 0 else 130) := rfl
      obtain ⟨Z, hZ⟩ : ∃ Z, Z = 1 + 16 * j := ⟨_, rfl⟩
      rw [← hZ] at hg hsl f1 f2
      have HZ : Hid (Z = 1 + 16 * j) := hZ
      rw [HE.out] at hg
      clear hZ HE
      cases hok : gOk (pt xs j)
      · rw [hok] at hg
        have hAM : Hid (EV = 130 ∧ LV = []) := by
          have h := HV.out
          rw [HF.out hok] at h
          exact h
        clear HV
        generalize ((gX (pt xs j) : Nat) : Int) = X at hg
        generalize ((gY (pt xs j) : Nat) : Int) = Y at hg
        simp only [Bool.false_eq_true, if_false] at hg
        clear HP HA HF hok HG HM hall hown hlen hN hM hc HZ
        go_wp2_with (first | (go_at_call 46; refine hg.mono ?_; rintro e w1 ⟨rfl, g1⟩; have hk1 := Kp.trans hkp g1))
        exact bodyPost_ret (v := .tuple #[.slice none 0 0, .int .i64 130]) (by simp [results, Try.results26, go_sem]) rfl ⟨.slice none 0 0, by rw [hAM.out.1], by rw [hAM.out.2]; exact OG.nil ULV 25 _ _, by exact hk1.alloc _⟩
      · rw [hok] at hg
        have hA1 : Hid (bAll xs (j + 1) = true) := by
          show bAll xs (j + 1) = true
          rw [HA.out, hall, hok]; rfl
        have HP2 := HP.out
        obtain ⟨X, hX⟩ : ∃ X : Int, X = ((gX (pt xs j) : Nat) : Int) := ⟨_, rfl⟩
        obtain ⟨Y, hY⟩ : ∃ Y : Int, Y = ((gY (pt xs j) : Nat) : Int) := ⟨_, rfl⟩
        have HP3 : Hid (∀ (v' : Value) (w2 : World), w2.ownsRow w.heap.size 25 2 v' (j + 1) (flat ULV (bP xs j) ++ [.int .u64 X, .int .u64 Y]) → OG ULV 25 w2 w.heap.size v' (bP xs (j + 1))) := by
          show ∀ (v' : Value) (w2 : World), w2.ownsRow w.heap.size 25 2 v' (j + 1) (flat ULV (bP xs j) ++ [.int .u64 X, .int .u64 Y]) → OG ULV 25 w2 w.heap.size v' (bP xs (j + 1))
          intro v' w2 h
          rw [HP2]
          refine OG.push ?_
          rw [hlen]
          rw [hX, hY] at h
          exact h
        rw [← hX, ← hY] at hg
        simp only [if_true] at hg
        have hjb : j < 32 := by omega
        clear HV HP HP2 hX hY HA HF hok HG HM hall hN hM hc HZ
        go_wp2_with (first | (go_at_call 46; refine hg.mono ?_; rintro e w1 ⟨rfl, g1⟩; have hk1 := Kp.trans hkp g1; have hown1 := hown.kp g1; have hob := og_block hown1; have hsz := hk1.size; have hown' : w1.ownsRow w.heap.size 25 2 v ((bP xs j).length) (flat ULV (bP xs j)) := hown1; clear hg) | (at_builtin; refine wpList_append_own _ rfl _ _ 22 rfl w.heap.size 25 i0 (.agg #[.int .u64 0, .int .u64 0]) 2 16 Try.underlying22 hi0 hi1 hi2 hi3 rfl (by decide) _ _ _ rfl ((hown'.alloc _).alloc _) ⟨w1.heap.size + 1, 0, none⟩ 1 1 [.int .u64 X, .int .u64 Y] rfl rfl ?c1 ?c2 ?c3 ?c4 ?c5 ?_))
        case c1 =>
          intro j' u hj'
          match j', hj' with
          | 0, hj' => simp at hj'; subst hj'; simp [Addr.add]
          | 1, hj' => simp at hj'; subst hj'; simp [Addr.add]
        case c2 => intro u hu; simp at hu; rcases hu with rfl | rfl <;> rfl
        case c3 => unfold maxLen; omega
        case c4 => omega
        case c5 => simp; omega
        intro v' w2 hown2 hgrow _
        have hO : OG ULV 25 w2 w.heap.size v' (bP xs (j + 1)) := HP3.out v' w2 hown2
        have hK2 : Kp w w2 := ((hk1.alloc _).alloc _).grown hgrow hob
        clear hown2 hgrow hown' hkp hob hsz HP3 hlen hk1 hown1 hown g1 hsl f1 f2
        go_wp2
        exact ⟨⟨_, j + 1, rfl, by omega, by go_num, hA1.out, hO, hK2⟩, by simp [intOf]; omega⟩
    · have hjk : j = M := by omega
      subst hjk
      have HAL : Hid (EV = 0 ∧ LV = bP xs j) := by
        have h := HV.out
        rw [hall] at h
        exact h
      clear HG HM hall hN hM hc HV
      go_wp2
      exact bodyPost_ret (v := .tuple #[v, .int .i64 0]) (by simp [results, Try.results26, go_sem] <;> simp only [*]) rfl ⟨v, by rw [HAL.out.1], by rw [HAL.out.2]; exact hown, hkp⟩
end B8
end Go.Proofs.Ytbcjhmdkpkmieab
namespace Go.Proofs.Ytbcjhmdkpkmieab
open Go.RowKit
open Go
namespace B8
theorem rgetbox_ (p : Option Addr) (c N : Nat) (xs : List Int) (w : World) (hx : Arr w p xs) (hl : xs.length = N) (hw : Wb xs) (hc : N ≤ c) (lx : N ≤ 1048576) : Calls Try.prog 26 #[.slice p N c] w fun e w' => ∃ v, e = .returned (.tuple #[v, .int .i64 (bE xs)]) ∧ OG ULV 25 w' w.heap.size v (bL xs) ∧ Kp w w' := by
  by_cases h0 : N = 0
  · have hb : bOk xs = false := by unfold bOk bHd; rw [hl, h0]; rfl
    unfold bE bL
    rw [hb, h0]
    exact (rgetboxE_ p c w).mono fun e w' h => ⟨.slice none 0 0, h.1, OG.nil _ _ _ _, h.2⟩
  · obtain ⟨b, off, rfl, hcell⟩ := hx.at (k := 0) (by omega)
    have hc0 := hcell 0 (by omega)
    rw [Nat.add_zero] at hc0
    have hD := hw 0
    obtain ⟨M, hM⟩ := Int.eq_ofNat_of_zero_le hD.1
    have hbn : bN xs = M := by unfold bN; rw [hM]; rfl
    by_cases h1 : M ≤ 32 ∧ N = 1 + 16 * M
    · have hh : bHd xs = true := by unfold bHd; rw [hbn, hl, decide_eq_true (by omega : 0 < N), decide_eq_true h1.1, decide_eq_true h1.2]; rfl
      refine rgetboxY_ b off N M c xs w hx hl hw hc h1.1 hM h1.2 _ _ ?_ ?_
      · unfold bE bOk; rw [hh, hbn, Bool.true_and]
      · unfold bL bOk; rw [hh, hbn, Bool.true_and]
    · have hh : bOk xs = false := by
        unfold bOk bHd
        rw [hbn, hl]
        by_cases a : M ≤ 32
        · rw [decide_eq_false (fun e => h1 ⟨a, e⟩ : ¬ N = 1 + 16 * M)]; simp
        · rw [decide_eq_false a]; simp
      unfold bE bL
      rw [hh]
      have g := rgetboxH_ b off N c (xs.getD 0 0) hD.1 hD.2 (by omega) lx w hc0 (by rw [hM]; omega)
      exact g.mono fun e w' h => ⟨.slice none 0 0, h.1, OG.nil _ _ _ _, h.2⟩
end B8
end Go.Proofs.Ytbcjhmdkpkmieab
namespace Go.Proofs.Ytbcjhmdkpkmieab
open Go.RowKit
open Go
namespace B8
/-- a row of pairs that is answered, or none -/
def RGO (w : World) (base : Nat) (p : Option Addr) (d : Nat) (ps : List (Nat × Nat)) (E : Int) : Prop := (E = 130 ∧ ps = [] ∧ p = none ∧ d = 0) ∨ (E = 0 ∧ ∃ G, p = some ⟨G, 0, none⟩ ∧ RG w G ps.length (fun i => ps.getD i (0, 0)) ∧ base ≤ G ∧ d = ps.length)
set_option maxRecDepth 20000 in
set_option maxHeartbeats 2000000 in
theorem getboxR_ (b off N M c : Nat) (xs : List Int) (w : World) (hx : Arr w (some ⟨b, off, none⟩) xs) (hl : xs.length = N) (hw : Wb xs) (hc : N ≤ c) (hM : M ≤ 32) (hM2 : xs.getD 0 0 = (M : Int)) (hN : N = 1 + 16 * M) (EV : Int) (LV : List (Nat × Nat)) (hEV : EV = if bAll xs M then 0 else 130) (hLV : LV = if bAll xs M then bP xs M else []) :
    Calls Try.prog 21 #[.slice (some ⟨b, off, none⟩) N c] w fun e w' => ∃ p' d, e = .returned (.tuple #[.slice p' LV.length d, .int .i64 EV]) ∧ RGO w' w.heap.size p' d LV EV ∧ Kp w w' := by
  have HV : Hid (EV = (if bAll xs M then 0 else 130) ∧ LV = (if bAll xs M then bP xs M else [])) := ⟨hEV, hLV⟩
  clear hEV hLV
  obtain ⟨b', off', he, hcell⟩ := hx.at (k := 0) (by omega)
  obtain ⟨rfl, rfl⟩ : b = b' ∧ off = off' := by simpa using he
  have hc0 := hcell 0 (by omega)
  rw [hM2, Nat.add_zero] at hc0
  have hwD : IntKind.i64.wrap (M : Int) = (M : Int) := by rw [IntKind.wrap_i64]; omega
  have n0 : ((N : Int) == 0) = false := by simp; omega
  have n2 : ¬ (32 < (M : Int)) := by omega
  have hN0 : 0 < N := by omega
  have hb := boxlen_ M (by omega)
  have n1 : ((N : Int) != ((1 + 16 * M : Nat) : Int)) = false := by simp; omega
  generalize ((1 + 16 * M : Nat) : Int) = Z at hb n1
  have hmk := mkI M (by omega)
  have hr0 := RG.made w M
  have hg0 : Kp w (w.alloc (.cells (madeCells #[.float .f64 0, .float .f64 0] (M * 2)) 31)) := (Kp.refl w).alloc _
  obtain ⟨G, hG⟩ : ∃ G, G = w.heap.size := ⟨_, rfl⟩
  rw [← hG] at hr0
  have HGG : Hid (G = w.heap.size) := hG
  have HGT : Hid (∀ (k : Nat) (W : World), k < M → Kp w W → Calls Try.prog 9 #[.slice (some ⟨b, off + (1 + 16 * k), none⟩) 16 16] W fun e w' => e = .returned (.tuple #[.agg #[.float .f64 (gX (pt xs k)), .float .f64 (gY (pt xs k))], .int .i64 (gE (pt xs k))]) ∧ Kp W w') := by
    show ∀ (k : Nat) (W : World), k < M → Kp w W → Calls Try.prog 9 #[.slice (some ⟨b, off + (1 + 16 * k), none⟩) 16 16] W fun e w' => e = .returned (.tuple #[.agg #[.float .f64 (gX (pt xs k)), .float .f64 (gY (pt xs k))], .int .i64 (gE (pt xs k))]) ∧ Kp W w'
    intro k W hk kk
    exact get_ _ 16 16 (pt xs k) W ((Arr.part hcell (1 + 16 * k) 16).grown kk) (pt_len xs k M (by omega) hk) (pt_wb hw k) (Nat.le_refl _)
  have HPT : Hid (∀ (k : Nat) (W : World), k < M → Calls Try.prog 44 #[.slice (some ⟨b, off, none⟩) N c, .int .i64 (k : Int)] W fun e w' => e = .returned (.slice (some ⟨b, off + (1 + 16 * k), none⟩) 16 16) ∧ w' = W) := by
    show ∀ (k : Nat) (W : World), k < M → Calls Try.prog 44 #[.slice (some ⟨b, off, none⟩) N c, .int .i64 (k : Int)] W fun e w' => e = .returned (.slice (some ⟨b, off + (1 + 16 * k), none⟩) 16 16) ∧ w' = W
    intro k W hk
    exact part_ b off N c k (by omega) (by omega) W
  have HM : Hid (M ≤ 32) := hM
  clear hx hl hw hM2 he hcell hN hM hc
  go_enter Try.func21, Try.ntmps21
  go_wp2_with (first | (go_at_call 43; refine (hb _).mono ?_; rintro e w' ⟨rfl, hw9⟩; rw [hw9]; clear hw9))
  rw [← hG]
  clear hG hmk hb
  go_loopw [29] (fun i wr => ∃ k : Nat, k ≤ M ∧ i = .int .i64 k ∧ bAll xs k = true ∧ RG wr G M (fun i => if i < k then (gX (pt xs i), gY (pt xs i)) else (0, 0)) ∧ Kp w wr) (fun i _ => M - (intOf i).toNat)
  case atStart => exact ⟨0, Nat.zero_le _, rfl, rfl, hr0.congr (fun i _ => by rw [if_neg (by omega)]), hg0⟩
  case round =>
    obtain ⟨k, hk, rfl, hall, hrow, hkp⟩ := hrel
    clear hr0 hg0
    by_cases ck : k < M
    · have hg := HGT.out k wr ck hkp
      have hp := HPT.out k wr ck
      have HA : Hid (bAll xs (k + 1) = (bAll xs k && gOk (pt xs k))) := bAll_succ xs k
      have HF : Hid (gOk (pt xs k) = false → bAll xs M = false) := fun h => bAll_le xs k M ck h
      have HE : gE (pt xs k) = if gOk (pt xs k) then 0 else 130 := rfl
      rw [HE] at hg
      generalize off + (1 + 16 * k) = o2 at hg hp
      have hM32 := HM.out
      clear HE HGT HPT
      cases hok : gOk (pt xs k)
      · rw [hok] at hg
        have hAM : Hid (EV = 130 ∧ LV = []) := by
          have h := HV.out
          rw [HF.out hok] at h
          exact h
        generalize gX (pt xs k) = X at hg
        generalize gY (pt xs k) = Y at hg
        simp only [Bool.false_eq_true, if_false] at hg
        clear HV HA HF hok hall hrow HGG HM
        go_wp2_with (first | (go_at_call 44; refine hp.mono ?_; rintro e w' ⟨rfl, hw9⟩; rw [hw9]; clear hw9) | (go_at_call 9; refine hg.mono ?_; rintro e w1 ⟨rfl, g1⟩; have hk1 := Kp.trans hkp g1))
        exact bodyPost_ret (v := .tuple #[.slice none 0 0, .int .i64 130]) (by simp [results, Try.results21, go_sem]) rfl ⟨none, 0, by rw [hAM.out.1, hAM.out.2]; rfl, by rw [hAM.out.1, hAM.out.2]; exact Or.inl ⟨rfl, rfl, rfl, rfl⟩, by exact hk1.alloc _⟩
      · rw [hok] at hg
        have hA1 : Hid (bAll xs (k + 1) = true) := by
          show bAll xs (k + 1) = true
          rw [HA.out, hall, hok]; rfl
        have HR1 : Hid (∀ W : World, RG W G M (fun i => if i < k then (gX (pt xs i), gY (pt xs i)) else (0, 0)) → RG ((W.setCell ⟨G, k * 2, none⟩ (.float .f64 (gX (pt xs k)))).setCell ⟨G, k * 2 + 1, none⟩ (.float .f64 (gY (pt xs k)))) G M (fun i => if i < k + 1 then (gX (pt xs i), gY (pt xs i)) else (0, 0))) := by
          show ∀ W : World, RG W G M (fun i => if i < k then (gX (pt xs i), gY (pt xs i)) else (0, 0)) → RG ((W.setCell ⟨G, k * 2, none⟩ (.float .f64 (gX (pt xs k)))).setCell ⟨G, k * 2 + 1, none⟩ (.float .f64 (gY (pt xs k)))) G M (fun i => if i < k + 1 then (gX (pt xs i), gY (pt xs i)) else (0, 0))
          intro W h
          refine (h.put k (gX (pt xs k)) (gY (pt xs k))).congr (fun i _ => ?_)
          by_cases c1 : i = k
          · subst c1; rw [if_pos rfl, if_pos (by omega)]
          · rw [if_neg c1]
            by_cases c2 : i < k
            · rw [if_pos c2, if_pos (by omega)]
            · rw [if_neg c2, if_neg (by omega)]
        obtain ⟨X, hX⟩ : ∃ X, X = gX (pt xs k) := ⟨_, rfl⟩
        obtain ⟨Y, hY⟩ : ∃ Y, Y = gY (pt xs k) := ⟨_, rfl⟩
        rw [← hX, ← hY] at hg HR1
        simp only [if_true] at hg
        have HRW : Hid (RG wr G M (fun i => if i < k then (gX (pt xs i), gY (pt xs i)) else (0, 0))) := hrow
        have hlt := World.rowIs.lt hrow
        have hGw : w.heap.size ≤ G := by rw [HGG.out]; exact Nat.le_refl _
        clear HV HA HF hok hall hX hY hrow HGG HM
        go_wp2_with (first | (go_at_call 44; refine hp.mono ?_; rintro e w' ⟨rfl, hw9⟩; rw [hw9]; clear hw9))
        refine hg.mono ?_
        rintro e w1 ⟨rfl, g1⟩
        have hk1 := (Kp.trans hkp g1).alloc (.cells #[.float .f64 X, .float .f64 Y] 31)
        have hrw1 : RG (w1.alloc (.cells #[.float .f64 X, .float .f64 Y] 31)) G M (fun i => if i < k then (gX (pt xs i), gY (pt xs i)) else (0, 0)) := HRW.out.grown (g1.alloc _)
        have c1 := World.rowIs.cell hrw1 (i := k * 2) (by omega)
        have c2 := World.rowIs.cell hrw1 (i := k * 2 + 1) (by omega)
        have c3 := World.rowIs.frozen hrw1 (k * 2)
        have c4 := World.rowIs.frozen hrw1 (k * 2 + 1)
        have HR2 : Hid (RG (((w1.alloc (.cells #[.float .f64 X, .float .f64 Y] 31)).setCell ⟨G, k * 2, none⟩ (.float .f64 X)).setCell ⟨G, k * 2 + 1, none⟩ (.float .f64 Y)) G M (fun i => if i < k + 1 then (gX (pt xs i), gY (pt xs i)) else (0, 0))) := HR1.out _ hrw1
        have hsz1 := Below.size g1
        have hne : G ≠ w1.heap.size := by omega
        generalize (if k * 2 % 2 = 0 then FLV ((fun i => if i < k then (gX (pt xs i), gY (pt xs i)) else (0, 0)) (k * 2 / 2)).1 else FLV ((fun i => if i < k then (gX (pt xs i), gY (pt xs i)) else (0, 0)) (k * 2 / 2)).2) = V1 at c1
        generalize (if (k * 2 + 1) % 2 = 0 then FLV ((fun i => if i < k then (gX (pt xs i), gY (pt xs i)) else (0, 0)) ((k * 2 + 1) / 2)).1 else FLV ((fun i => if i < k then (gX (pt xs i), gY (pt xs i)) else (0, 0)) ((k * 2 + 1) / 2)).2) = V2 at c2
        clear hrw1 HR1 HRW hg hp
        go_wp2
        exact ⟨⟨k + 1, by omega, by go_num, hA1.out, HR2.out, (hk1.setCell hGw _).setCell hGw _⟩, by simp [intOf]; omega⟩
    · have hkM : k = M := by omega
      subst hkM
      have HAL : Hid (EV = 0 ∧ LV = bP xs k) := by
        have h := HV.out
        rw [hall] at h
        exact h
      have hag : Hid (RG wr G k (fun i => (bP xs k).getD i (0, 0))) := RG.congr hrow (fun i hi => by rw [if_pos hi, bP_get xs k i hi])
      have hlen := bP_len xs k
      have HGW : Hid (w.heap.size ≤ G) := by
        show w.heap.size ≤ G
        rw [HGG.out]; exact Nat.le_refl _
      clear HGT HPT hall HV hrow HGG
      go_wp2
      exact bodyPost_ret (v := .tuple #[.slice (some ⟨G, 0, none⟩) k k, .int .i64 0]) (by simp [results, Try.results21, go_sem] <;> simp only [*]) rfl ⟨some ⟨G, 0, none⟩, k, by rw [HAL.out.1, HAL.out.2, bP_len], by rw [HAL.out.1, HAL.out.2]; exact Or.inr ⟨rfl, G, rfl, by rw [bP_len]; exact hag.out, HGW.out, by rw [bP_len]⟩, hkp⟩
theorem getboxr_ (p : Option Addr) (c N : Nat) (xs : List Int) (w : World) (hx : Arr w p xs) (hl : xs.length = N) (hw : Wb xs) (hc : N ≤ c) (lx : N ≤ 1048576) : Calls Try.prog 21 #[.slice p N c] w fun e w' => ∃ p' d, e = .returned (.tuple #[.slice p' (bL xs).length d, .int .i64 (bE xs)]) ∧ RGO w' w.heap.size p' d (bL xs) (bE xs) ∧ Kp w w' := by
  by_cases h0 : N = 0
  · have hb : bOk xs = false := by unfold bOk bHd; rw [hl, h0]; rfl
    unfold bE bL
    rw [hb, h0]
    exact (getboxE_ p c w).mono fun e w' h => ⟨none, 0, h.1, Or.inl ⟨rfl, rfl, rfl, rfl⟩, h.2⟩
  · obtain ⟨b, off, rfl, hcell⟩ := hx.at (k := 0) (by omega)
    have hc0 := hcell 0 (by omega)
    rw [Nat.add_zero] at hc0
    have hD := hw 0
    obtain ⟨M, hM⟩ := Int.eq_ofNat_of_zero_le hD.1
    have hbn : bN xs = M := by unfold bN; rw [hM]; rfl
    by_cases h1 : M ≤ 32 ∧ N = 1 + 16 * M
    · have hh : bHd xs = true := by unfold bHd; rw [hbn, hl, decide_eq_true (by omega : 0 < N), decide_eq_true h1.1, decide_eq_true h1.2]; rfl
      refine getboxR_ b off N M c xs w hx hl hw hc h1.1 hM h1.2 _ _ ?_ ?_
      · unfold bE bOk; rw [hh, hbn, Bool.true_and]
      · unfold bL bOk; rw [hh, hbn, Bool.true_and]
    · have hh : bOk xs = false := by
        unfold bOk bHd
        rw [hbn, hl]
        by_cases a : M ≤ 32
        · rw [decide_eq_false (fun e => h1 ⟨a, e⟩ : ¬ N = 1 + 16 * M)]; simp
        · rw [decide_eq_false a]; simp
      unfold bE bL
      rw [hh]
      rw [hM] at hc0 hD
      have g := getboxH_ b off N c M (by omega) (by omega) lx w hc0 (by omega)
      exact g.mono fun e w' h => ⟨none, 0, h.1, Or.inl ⟨rfl, rfl, rfl, rfl⟩, h.2⟩
end B8
end Go.Proofs.Ytbcjhmdkpkmieab
namespace Go.Proofs.Ytbcjhmdkpkmieab
open Go.RowKit
open Go
namespace B8
theorem wpList_app {P : Program} (w : World) {ops : Array Oper} {rest : List Oper} {o : Oper} {a : Act} {Q : Exit → Act → World → Prop} (hw : Region.wanted o (yielded ops a.tmps) = true) (s x : Operand) (t : TypeId)
    (ho : o.op = .call { callee := .builtin .append, args := #[s, x], argTypes := #[t, t] }) (v u v' : Value) (w' : World) (hs : a.eval s = v) (hx : a.eval x = u)
    (hr : (Builtin.append_ #[t, t] o.type #[v, u]).run P w = .ok v' w') (h : wpList P ops Q rest (a.put o.dst v') w') : wpList P ops Q (o :: rest) a w := by
  refine wpList_step fun K hK => ?_
  rw [if_pos hw]
  unfold Oper.wp execOp
  simp only [ho, resolve, invoke, builtin, Sem.run_bind, Sem.run_pure, Result.andThen_ok, List.map_toArray, List.map_cons, List.map_nil, hs, hx, hr]
  exact hK _ _ h
end B8
end Go.Proofs.Ytbcjhmdkpkmieab
namespace Go.Proofs.Ytbcjhmdkpkmieab
open Go.RowKit
open Go
namespace B8
/-- all blocks but g are as they were -/
def Kb (g : Nat) (w w' : World) : Prop := w'.os = w.os ∧ w'.tape = w.tape ∧ w'.output = w.output ∧ w.heap.size ≤ w'.heap.size ∧ ∀ k, k < w.heap.size → k ≠ g → w'.heap[k]? = w.heap[k]?
theorem Kb.refl (g : Nat) (w : World) : Kb g w w := ⟨rfl, rfl, rfl, Nat.le_refl _, fun _ _ _ => rfl⟩
theorem Kb.setCell {g : Nat} {w w' : World} (h : Kb g w w') (j : Nat) (v : Value) : Kb g w (w'.setCell ⟨g, j, none⟩ v) := by
  obtain ⟨h1, h2, h3, h4, h5⟩ := h
  refine ⟨h1, h2, h3, by simpa [World.setCell] using h4, fun k hk hne => ?_⟩
  rw [← h5 k hk hne]
  simp only [World.setCell, Array.getElem?_modify]
  rw [if_neg (by omega)]
theorem Kb.kp {g : Nat} {a w w' : World} (h : Kb g w w') (k : Kp a w) (hg : a.heap.size ≤ g) : Kp a w' :=
  ⟨h.1.trans k.os, h.2.1.trans k.tape, h.2.2.1.trans k.output, Nat.le_trans k.size h.2.2.2.1, fun i hi => (h.2.2.2.2 i (Nat.lt_of_lt_of_le hi k.size) (by omega)).trans (Below.block k i hi)⟩
theorem Kb.arr {g : Nat} {w w' : World} (h : Kb g w w') {b off : Nat} {v : Value} (hne : b ≠ g) (hc : w.cell? ⟨b, off, none⟩ = some v) : w'.cell? ⟨b, off, none⟩ = some v := by
  have e := h.2.2.2.2 b (cell_lt hc) hne
  rw [World.cell?_of_block (w := w) (a := ⟨b, off, none⟩) e]; exact hc
theorem own_row {w : World} {base : Nat} {v : Value} {xs : List Int} (h : Own w base v xs) (hx : xs ≠ []) : ∃ L cap f, v = .slice (some ⟨L, 0, none⟩) xs.length cap ∧ base ≤ L ∧ w.rowIs L 5 cap f ∧ xs.length ≤ cap := by
  rcases h.2 with ⟨h1, h2⟩ | ⟨g, cap, cur, h1, h2, h3, h4, h5, h6, h7⟩
  · exact absurd (List.length_eq_zero_iff.1 h2) hx
  · refine ⟨g, cap, fun j => cur.getD j undef, h1, h2, ⟨cur, h3, by omega, fun i hi => ?_⟩, h4⟩
    have hi2 : i < cur.size := by omega
    simp [Array.getD, hi2]
theorem rowIs_kb {g b n : Nat} {t : TypeId} {f : Nat → Value} {w w' : World} (h : w.rowIs b t n f) (k : Kb g w w') (hne : b ≠ g) : w'.rowIs b t n f := h.of_block (k.2.2.2.2 b h.lt hne)
theorem appP_run (w : World) (base : Nat) (v : Value) (qs : List (Nat × Nat)) (b off x y c : Nat) (hown : OG FLV 31 w base v qs) (e1 : w.cell? ⟨b, off, none⟩ = some (.float .f64 x)) (e2 : w.cell? ⟨b, off + 1, none⟩ = some (.float .f64 y)) (hb : qs.length + 1 ≤ 1048576) (hbase : base ≤ w.heap.size) :
    ∃ v' w', (Builtin.append_ #[50, 50] 50 #[v, .slice (some ⟨b, off, none⟩) 1 c]).run Try.prog w = .ok v' w' ∧ OG FLV 31 w' base v' (qs ++ [(x, y)]) ∧ w.grownBy w' v.ownBlock ∧ (v'.ownBlock = v.ownBlock ∨ v'.ownBlock = some w.heap.size) := by
  obtain ⟨i0, hi0, hi1, hi2, hi3⟩ := infF
  obtain ⟨v', w', hr, ho, hg, -, h5⟩ := run_append_own_at (P := Try.prog) w base 50 50 31 i0 (.agg #[.float .f64 0, .float .f64 0]) 2 16 Try.underlying50 hi0 hi1 hi2 hi3 rfl (by decide) v qs.length (flat FLV qs) hown ⟨b, off, none⟩ 1 c [.float .f64 x, .float .f64 y] rfl (fun j u hu => by
    match j, hu with
    | 0, hu => rw [addr_add, Nat.add_zero, e1]; simpa using hu
    | 1, hu => rw [addr_add, e2]; simpa using hu) (fun u hu => by simp at hu; rcases hu with rfl | rfl <;> rfl) (by unfold maxLen; omega) (by omega) hbase
  exact ⟨v', w', hr, OG.push ho, hg, h5⟩
theorem AG.far {f : Nat → Value} {w w' : World} {p : Option Addr} {ps : List (Nat × Nat)} {row : Option Nat} (h : AG f w p ps) (g : w.grownBy w' row) (hne : ∀ a, p = some a → row ≠ some a.block) : AG f w' p ps := by
  rcases h with h | ⟨b, off, h1, h2⟩
  · exact Or.inl h
  · have hb := hne _ h1
    exact Or.inr ⟨b, off, h1, fun j hj => ⟨(g.cell_far ⟨b, off + j * 2, none⟩ (cell_lt (h2 j hj).1) (fun e => hb e.symm)).trans (h2 j hj).1, (g.cell_far ⟨b, off + j * 2 + 1, none⟩ (cell_lt (h2 j hj).1) (fun e => hb e.symm)).trans (h2 j hj).2⟩⟩
theorem og_row {w : World} {G n base : Nat} {q : Nat → Nat × Nat} (h : RG w G n q) (hb : base ≤ G) (hn : n ≤ 1048576) : OG FLV 31 w base (.slice (some ⟨G, 0, none⟩) n n) ((List.range n).map q) := by
  obtain ⟨cur, h1, h2, h3⟩ := h
  have hl : ((List.range n).map q).length = n := by simp
  refine ⟨by rw [flat_len], Or.inr ⟨G, n, cur, by rw [hl], hb, h1, by rw [hl]; exact Nat.le_refl _, by unfold maxLen; omega, by omega, ?_⟩⟩
  rw [hl]
  apply List.ext_getElem?
  intro j
  by_cases c : j < n * 2
  · rw [List.getElem?_take, if_pos c, Array.getElem?_toList, h3 j c]
    have hj : j / 2 < n := by omega
    have e := flat_get FLV ((List.range n).map q) (j / 2) (by rw [hl]; exact hj)
    have g : ((List.range n).map q).getD (j / 2) (0, 0) = q (j / 2) := by simp [List.getD, hj]
    rw [g] at e
    by_cases c2 : j % 2 = 0
    · have e' := e.1
      rw [show j / 2 * 2 = j from by omega] at e'
      rw [e']
      dsimp only
      rw [if_pos c2]
    · have e' := e.2
      rw [show j / 2 * 2 + 1 = j from by omega] at e'
      rw [e']
      dsimp only
      rw [if_neg c2]
  · rw [List.getElem?_take, if_neg c, List.getElem?_eq_none (by rw [flat_len, hl]; omega)]
end B8
end Go.Proofs.Ytbcjhmdkpkmieab
namespace Go.Proofs.Ytbcjhmdkpkmieab
open Go.RowKit
open Go
namespace B8
set_option maxRecDepth 20000 in
set_option maxHeartbeats 1000000 in
theorem samebox_ (p q : Option Addr) (c d : Nat) (ps : List (Nat × Nat)) (w : World) (hx : AG FLV w p ps) (hy : AG ULV w q ps) (lx : ps.length ≤ 1048576) :
    Calls Try.prog 27 #[.slice p ps.length c, .slice q ps.length d] w fun e w' => e = .returned (.bool true) ∧ Kp w w' := by
  obtain ⟨N, hN⟩ : ∃ N, N = ps.length := ⟨_, rfl⟩
  rw [← hN] at lx ⊢
  have HX : Hid (AG FLV w p ps) := hx
  have HY : Hid (AG ULV w q ps) := hy
  have HN : Hid (N = ps.length) := hN
  clear hN hx hy
  go_enter Try.func27, Try.ntmps27
  go_wp2
  go_loopw [5] (fun i wr => ∃ k : Nat, k ≤ N ∧ i = .int .i64 k ∧ Kp w wr) (fun i _ => N - (intOf i).toNat)
  case atStart => exact ⟨0, Nat.zero_le _, rfl, Kp.refl _⟩
  case round =>
    obtain ⟨k, hk, rfl, hg⟩ := hrel
    have hN := HN.out
    by_cases ck : k < N
    · obtain ⟨b, off, rfl, hc⟩ := HX.out.at (k := k) (by omega)
      obtain ⟨b', off', rfl, hc'⟩ := HY.out.at (k := k) (by omega)
      have e1 : wr.cell? ⟨b, off + k * 2, none⟩ = some (.float .f64 (ps.getD k (0, 0)).1) := kkeep hg (hc k (by omega)).1
      have e2 : wr.cell? ⟨b, off + k * 2 + 1, none⟩ = some (.float .f64 (ps.getD k (0, 0)).2) := kkeep hg (hc k (by omega)).2
      have f1 : wr.cell? ⟨b', off' + k * 2, none⟩ = some (.int .u64 (((ps.getD k (0, 0)).1 : Nat) : Int)) := kkeep hg (hc' k (by omega)).1
      have f2 : wr.cell? ⟨b', off' + k * 2 + 1, none⟩ = some (.int .u64 (((ps.getD k (0, 0)).2 : Nat) : Int)) := kkeep hg (hc' k (by omega)).2
      have ho := out9_ (ps.getD k (0, 0)).1 (ps.getD k (0, 0)).2
      generalize (ps.getD k (0, 0)).1 = Y1 at e1 f1 ho
      generalize (ps.getD k (0, 0)).2 = Y2 at e2 f2 ho
      generalize (Y1 : Int) = Z1 at f1 ho
      generalize (Y2 : Int) = Z2 at f2 ho
      clear hc hc' HX HY HN hN hk
      go_wp2
      refine Fq.wp_region_grow (by kernel_rfl) (by kernel_rfl) (fun ι _ G hG hall => ?_)
      have cc0 : ∀ n, (G n).cell? ⟨b, off + k * 2, none⟩ = some (.float .f64 Y1) := fun n => Fq.gkeep (hG n) e1
      have cc1 : ∀ n, (G n).cell? ⟨b, off + k * 2 + 1, none⟩ = some (.float .f64 Y2) := fun n => Fq.gkeep (hG n) e2
      have cc2 : ∀ n, (G n).cell? ⟨b', off' + k * 2, none⟩ = some (.int .u64 Z1) := fun n => Fq.gkeep (hG n) f1
      have cc3 : ∀ n, (G n).cell? ⟨b', off' + k * 2 + 1, none⟩ = some (.int .u64 Z2) := fun n => Fq.gkeep (hG n) f2
      repeat (go_big_quiet_step (first | (go_at_call 12; exact (ho _).mono (fun e w' h => ⟨h.1, hall _ (Fq.gtrans (hG _) h.2)⟩))))
      refine wpQuiet_nil ?_
      rintro _ ⟨nq, rfl⟩
      have gq : Kp wr (G nq) := hG nq
      clear cc0 cc1 cc2 cc3 hall hG
      go_wp2
      exact ⟨⟨k + 1, by omega, by go_num, Kp.trans hg gq⟩, by simp [intOf]; omega⟩
    · clear HX HY HN hN
      go_wp2
      exact bodyPost_ret (v := .bool true) (by simp [results, Try.results27, go_sem]) rfl ⟨rfl, hg⟩
end B8
end Go.Proofs.Ytbcjhmdkpkmieab
namespace Go.Proofs.Ytbcjhmdkpkmieab
open Go.RowKit
open Go
namespace B8
set_option linter.unusedVariables false
set_option maxRecDepth 20000 in
set_option maxHeartbeats 4000000 in
theorem partsZ_ (p : Option Addr) (c N n : Nat) (xs : List Int) (ps : List (Nat × Nat)) (hxs : xs.length = 0) (hn : ps.length = 0) (hN : N ≤ 1048576) (hnb : n ≤ 32) (hps : ps = []) (w : World) (hx : Arr w p xs)
    (HR : ∀ W : World, Kp w W → Calls Try.prog 26 #[.slice p 0 c] W fun e w' => ∃ v, e = .returned (.tuple #[v, .int .i64 130]) ∧ OG ULV 25 w' W.heap.size v ps ∧ Kp W w')
    (HC : ∀ W : World, Kp w W → Calls Try.prog 23 #[.slice p 0 c] W fun e w' => ∃ v, e = .returned v ∧ Own w' W.heap.size v xs ∧ Kp W w')
    (HG : ∀ (q : Option Addr) (d : Nat) (W : World), 0 ≤ d → Arr W q xs → Calls Try.prog 21 #[.slice q 0 d] W fun e w' => e = .returned (.tuple #[.slice none 0 0, .int .i64 130]) ∧ Kp W w')
    (HS : ∀ (p q : Option Addr) (c d : Nat) (W : World), AG FLV W p ps → AG ULV W q ps → Calls Try.prog 27 #[.slice p 0 c, .slice q 0 d] W fun e w' => e = .returned (.bool true) ∧ Kp W w') : Calls Try.prog 7 #[.slice p 0 c] w fun e w' => e = .returned (.bool true) ∧ Kp w w' := by
  go_enter Try.func7, Try.ntmps7
  go_wp2_with (first | (go_at_call 8; refine (awake_ _).mono ?_; rintro e wa ⟨rfl, ka⟩) | (go_at_call 26; refine (HR _ ka).mono ?_; rintro e w1 ⟨v1, rfl, o1, g1⟩; have k1 : Kp w w1 := Kp.trans ka g1; obtain ⟨p1, c1, rfl, a1, -⟩ := o1.arr; rw [hn]) | (go_at_call 23; refine (HC _ k1).mono ?_; rintro e w2 ⟨v2, rfl, o2, g2⟩; have k2 : Kp w1 w2 := g2; obtain ⟨p2, c2, rfl, l2, hcap⟩ := o2.arr; rw [hxs] at hcap; rw [hxs]) | (go_at_call 21; refine (HG _ c2 _ hcap l2).mono ?_; rintro e w3 ⟨rfl, g3⟩; have k3 : Kp w2 w3 := g3; have hs := HS none _ 0 c1 _ (Or.inl hps) (a1.grown (Kp.trans k2 k3))) | (go_at_call 27; refine hs.mono ?_; rintro e w4 ⟨rfl, g4⟩; have k4 : Kp w2 w4 := Kp.trans k3 g4))
  have K4 : Kp w1 w4 := Kp.trans k2 k4
  have HA1 : Hid (AG ULV w1 p1 ps) := a1
  have HX : Hid (Arr w p xs ∧ xs.length = 0 ∧ Kp w w1) := ⟨hx, hxs, k1⟩
  have HHS := HS
  clear HR HC o1 a1 g1 g2 g3 g4 ka k2 k3 k4 hs o2  
  go_loopw [8] (fun i wr => i = .int .i64 0 ∧ wr = w4) (fun _ _ => 0)
  case atStart => exact ⟨rfl, rfl⟩
  case round =>
    obtain ⟨rfl, hw⟩ := hrel
    rw [hw]
    clear hw wr
    have K5 := K4
    have hs := HHS none p1 0 c1 w4 (Or.inl hps) (HA1.out.grown K4)
    go_wp2_with (first | (go_at_call 27; refine hs.mono ?_; rintro e w5 ⟨rfl, g5⟩))
    replace K5 := Kp.trans K5 g5
    clear hs g5
    go_loopw [9] (fun i wr => i = .int .i64 0 ∧ wr = w5) (fun _ _ => 0)
    case atStart => exact ⟨rfl, rfl⟩
    case round =>
      obtain ⟨rfl, hw⟩ := hrel
      rw [hw]
      clear hw wr
      have K6 := K5
      have hg := HG p2 c2 w5 hcap (Or.inl (List.length_eq_zero_iff.1 hxs))
      go_wp2_with (first | (go_at_call 21; refine hg.mono ?_; rintro e w6 ⟨rfl, g6⟩; replace K6 := Kp.trans K6 g6; have hs := HHS none _ 0 c1 _ (Or.inl hps) (HA1.out.grown K6)) | (go_at_call 27; refine hs.mono ?_; rintro e w7 ⟨rfl, g7⟩))
      replace K6 := Kp.trans K6 g7
      clear hs hg g6 g7 HG HX
      go_loopw [11] (fun i wr => i = .int .i64 0 ∧ wr = w7) (fun _ _ => 0)
      case atStart => exact ⟨rfl, rfl⟩
      case round =>
        obtain ⟨rfl, hw⟩ := hrel
        rw [hw]
        clear hw wr
        have hs := HHS none p1 0 c1 w7 (Or.inl hps) (HA1.out.grown K6)
        have K8 := K6
        go_wp2_with (first | (go_at_call 27; refine hs.mono ?_; rintro e w8 ⟨rfl, g8⟩))
        replace K8 := Kp.trans K8 g8
        clear hs g8
        have hq0 : OG FLV 31 w8 w1.heap.size (.slice none 0 0) ([] ++ List.replicate 0 (4619567317775286272, 4620693217682128896)) := by
          rw [List.replicate_zero]
          exact OG.nil _ _ _ _
        have hOB : ∀ k, (Value.slice none 0 0).ownBlock = some k → w8.heap.size ≤ k := fun k hk => by simp [Value.ownBlock] at hk
        have a8 : AG FLV w8 none ps := Or.inl hps
        have b8 := HA1.out.grown K8
        have HBS : Hid (∀ a, p1 = some a → a.block < w1.heap.size ∨ ps = []) := by
          show ∀ a, p1 = some a → a.block < w1.heap.size ∨ ps = []
          intro a ha
          rcases HA1.out with h | ⟨b, off, h1, h2⟩
          · exact Or.inr h
          · by_cases hps9 : ps = []
            · exact Or.inr hps9
            · rw [h1] at ha
              cases ha
              exact Or.inl (cell_lt (h2 0 (by cases ps with | nil => exact absurd rfl hps9 | cons _ _ => simp)).1)
        have hw1 := K8.size
        have hKw8 : Kp w w8 := Kp.trans k1 K8
        clear HA1 K8 
        go_loopw [12, 13] (fun a i wr => ∃ (v : Value) (j : Nat), v = a ∧ j ≤ 40 ∧ i = .int .i64 j ∧ OG FLV 31 wr w1.heap.size v (([] : List (Nat × Nat)) ++ List.replicate j (4619567317775286272, 4620693217682128896)) ∧ (∀ k, v.ownBlock = some k → w8.heap.size ≤ k) ∧ AG FLV wr none ps ∧ AG ULV wr p1 ps ∧ w8.heap.size ≤ wr.heap.size ∧ Kp w wr) (fun _ i _ => 40 - (intOf i).toNat)
        case atStart => exact ⟨_, 0, rfl, Nat.zero_le _, rfl, hq0, hOB, a8, b8, Nat.le_refl _, hKw8⟩
        case round =>
          obtain ⟨v, j, rfl, hj, rfl, hown, hob, aT, aW, hsz, hkp⟩ := hrel
          clear hq0 hOB a8 b8 hKw8
          have hlen : (([] : List (Nat × Nat)) ++ List.replicate j (4619567317775286272, 4620693217682128896)).length = 0 + j := by simp
          by_cases cj : j < 40
          · have f1 : (wr.alloc (.cells #[.float .f64 4619567317775286272, .float .f64 4620693217682128896] 31)).cell? ⟨wr.heap.size, 0, none⟩ = some (.float .f64 4619567317775286272) := (Fq.H2.new wr (.float .f64 4619567317775286272) (.float .f64 4620693217682128896) 31).1
            have f2 : (wr.alloc (.cells #[.float .f64 4619567317775286272, .float .f64 4620693217682128896] 31)).cell? ⟨wr.heap.size, 0 + 1, none⟩ = some (.float .f64 4620693217682128896) := (Fq.H2.new wr (.float .f64 4619567317775286272) (.float .f64 4620693217682128896) 31).2.1
            obtain ⟨v', w9, hap, oap, hgr, hat⟩ := appP_run (wr.alloc (.cells #[.float .f64 4619567317775286272, .float .f64 4620693217682128896] 31)) w1.heap.size v _ wr.heap.size 0 4619567317775286272 4620693217682128896 1 (hown.kp ((Kp.refl wr).alloc _)) f1 f2 (by rw [hlen]; omega) (by simp; omega)
            rw [List.append_assoc, ← List.replicate_succ'] at oap
            have ka := (Kp.refl wr).alloc (.cells #[.float .f64 4619567317775286272, .float .f64 4620693217682128896] 31)
            have aT9 : AG FLV w9 none ps := (aT.grown ka).far hgr (fun a ha he => by cases ha)
            have aW9 : AG ULV w9 p1 ps := by
              by_cases hps9 : ps = []
              · exact Or.inl hps9
              · exact (aW.grown ka).far hgr (fun a ha he => by
                  have h := hob _ he
                  rcases HBS.out a ha with h1 | h1
                  · omega
                  · exact hps9 h1)
            have hob9 : ∀ k, v'.ownBlock = some k → w8.heap.size ≤ k := fun k hk => by
              rcases hat with h | h
              · exact hob k (by rw [← h]; exact hk)
              · rw [h] at hk
                simp at hk
                omega
            have hK9 : Kp w w9 := (hkp.alloc _).grown hgr (fun k hk => Nat.le_trans (Below.size k1) (og_block hown k hk))
            have hs9 : w8.heap.size ≤ w9.heap.size := by
              have := hgr.size
              simp at this
              omega
            clear hown hob aT aW hkp hgr hat ka f1 f2 hlen HBS HS HHS 
            go_wp2_with (first | (at_builtin; refine wpList_app _ (by rfl) _ _ 50 rfl _ _ _ _ rfl rfl hap ?_; clear hap))
            exact ⟨⟨_, j + 1, rfl, by omega, by go_num, oap, hob9, aT9, aW9, hs9, hK9⟩, by simp [intOf]; omega⟩
          · have hj40 : j = 40 := by omega
            subst hj40
            have hs := HHS none p1 0 c1 wr aT aW
            obtain ⟨pg, cg, rfl, -, -⟩ := hown.arr
            rw [hlen]
            have f9 : (((0 + 40 : Nat) : Int) == (0 : Int) + 40) = true := by simp
            clear hown hob aT aW HBS HS HHS hlen 
            go_wp2_with (first | (go_at_call 27; refine hs.mono ?_; rintro e w9 ⟨rfl, g9⟩))
            exact bodyPost_ret (v := .bool true) (by simp [results, Try.results7, go_sem]) rfl ⟨rfl, Kp.trans hkp g9⟩
end B8
end Go.Proofs.Ytbcjhmdkpkmieab
namespace Go.Proofs.Ytbcjhmdkpkmieab
open Go.RowKit
open Go
namespace B8
set_option linter.unusedVariables false
set_option maxRecDepth 20000 in
set_option maxHeartbeats 4000000 in
theorem partsN_ (p : Option Addr) (c N n : Nat) (xs : List Int) (ps : List (Nat × Nat)) (hxs : xs.length = N) (hn : ps.length = 0) (hN : N ≤ 1048576) (hnb : n ≤ 32) (hxn : xs ≠ []) (hps : ps = []) (w : World) (hx : Arr w p xs)
    (HR : ∀ W : World, Kp w W → Calls Try.prog 26 #[.slice p N c] W fun e w' => ∃ v, e = .returned (.tuple #[v, .int .i64 130]) ∧ OG ULV 25 w' W.heap.size v ps ∧ Kp W w')
    (HC : ∀ W : World, Kp w W → Calls Try.prog 23 #[.slice p N c] W fun e w' => ∃ v, e = .returned v ∧ Own w' W.heap.size v xs ∧ Kp W w')
    (HG : ∀ (q : Option Addr) (d : Nat) (W : World), N ≤ d → Arr W q xs → Calls Try.prog 21 #[.slice q N d] W fun e w' => e = .returned (.tuple #[.slice none 0 0, .int .i64 130]) ∧ Kp W w')
    (HS : ∀ (p q : Option Addr) (c d : Nat) (W : World), AG FLV W p ps → AG ULV W q ps → Calls Try.prog 27 #[.slice p 0 c, .slice q 0 d] W fun e w' => e = .returned (.bool true) ∧ Kp W w') : Calls Try.prog 7 #[.slice p N c] w fun e w' => e = .returned (.bool true) ∧ Kp w w' := by
  go_enter Try.func7, Try.ntmps7
  go_wp2_with (first | (go_at_call 8; refine (awake_ _).mono ?_; rintro e wa ⟨rfl, ka⟩) | (go_at_call 26; refine (HR _ ka).mono ?_; rintro e w1 ⟨v1, rfl, o1, g1⟩; have k1 : Kp w w1 := Kp.trans ka g1; obtain ⟨p1, c1, rfl, a1, -⟩ := o1.arr; rw [hn]) | (go_at_call 23; refine (HC _ k1).mono ?_; rintro e w2 ⟨v2, rfl, o2, g2⟩; have k2 : Kp w1 w2 := g2; obtain ⟨L, c2, f2, hv2, hL, hrow2, hcap⟩ := own_row o2 hxn; subst hv2; obtain ⟨p2', c2', hv2, l2, -⟩ := o2.arr; obtain ⟨rfl, -⟩ : some (⟨L, 0, none⟩ : Addr) = p2' ∧ c2 = c2' := (by simpa using hv2); rw [hxs] at hcap; rw [hxs]) | (go_at_call 21; refine (HG _ c2 _ hcap l2).mono ?_; rintro e w3 ⟨rfl, g3⟩; have k3 : Kp w2 w3 := g3; have hs := HS none _ 0 c1 _ (Or.inl hps) (a1.grown (Kp.trans k2 k3))) | (go_at_call 27; refine hs.mono ?_; rintro e w4 ⟨rfl, g4⟩; have k4 : Kp w2 w4 := Kp.trans k3 g4))
  have K4 : Kp w1 w4 := Kp.trans k2 k4
  have HA1 : Hid (AG ULV w1 p1 ps) := a1
  have HX : Hid (Arr w p xs ∧ xs.length = N ∧ Kp w w1) := ⟨hx, hxs, k1⟩
  have HHS := HS
  have hRL4 : ∃ f, w4.rowIs L 5 c2 f := ⟨_, rowIs_grown hrow2 k4⟩
  clear HR HC o1 a1 g1 g2 g3 g4 ka k2 k3 k4 hs o2  hrow2
  go_loopw [8] (fun i wr => ∃ j : Nat, j ≤ N ∧ i = .int .i64 j ∧ (∃ f, wr.rowIs L 5 c2 f) ∧ Kb L w4 wr) (fun i _ => N - (intOf i).toNat)
  case atStart => exact ⟨0, Nat.zero_le _, rfl, hRL4, Kb.refl _ _⟩
  case round =>
    obtain ⟨j, hj, rfl, ⟨f, hrow⟩, hkb⟩ := hrel
    clear hRL4
    by_cases cj : j < N
    · have e1 := hrow.cell (i := j) (by omega)
      have e2 := hrow.frozen j
      have hst : ∃ f', (wr.setCell ⟨L, j, none⟩ (.int .u8 90)).rowIs L 5 c2 f' := ⟨_, hrow.set j (.int .u8 90)⟩
      have hkb2 := hkb.setCell j (.int .u8 90)
      generalize f j = V at e1
      clear hrow hkb HA1 HX HG HS HHS K4 
      go_wp2
      exact ⟨⟨j + 1, by omega, by go_num, hst, hkb2⟩, by simp [intOf]; omega⟩
    · have K5 : Kp w1 wr := hkb.kp K4 hL
      skip
      have hs := HHS none p1 0 c1 wr (Or.inl hps) (HA1.out.grown K5)
      have hRL5 : ∃ f, wr.rowIs L 5 c2 f := ⟨_, hrow⟩
      clear hrow hkb K4 
      go_wp2_with (first | (go_at_call 27; refine hs.mono ?_; rintro e w5 ⟨rfl, g5⟩))
      replace K5 := Kp.trans K5 g5
      replace hRL5 : ∃ f, w5.rowIs L 5 c2 f := by obtain ⟨f, h⟩ := hRL5; exact ⟨f, rowIs_grown h g5⟩
      clear hs g5
      obtain ⟨f5, hrow5⟩ := hRL5
      go_loopw [9] (fun i wr => ∃ j : Nat, j ≤ N ∧ i = .int .i64 j ∧ wr.rowIs L 5 c2 (fun t => if t < j then .int .u8 (xs.getD t 0) else f5 t) ∧ Kb L w5 wr) (fun i _ => N - (intOf i).toNat)
      case atStart => exact ⟨0, Nat.zero_le _, rfl, hrow5.congr (fun t _ => by rw [if_neg (by omega)]), Kb.refl _ _⟩
      case round =>
        obtain ⟨j, hj, rfl, hrow, hkb⟩ := hrel
        clear hrow5
        obtain ⟨hx, hxs, k1⟩ := HX.out
        by_cases cj : j < N
        · obtain ⟨b, off, rfl, hc⟩ := hx.at (k := j) (by omega)
          have hKw : Kp w wr := Kp.trans k1 (hkb.kp K5 hL)
          have e0 := kkeep hKw (hc j (by omega))
          have e1 := hrow.cell (i := j) (by omega)
          have e2 := hrow.frozen j
          have hst : (wr.setCell ⟨L, j, none⟩ (.int .u8 (xs.getD j 0))).rowIs L 5 c2 (fun t => if t < j + 1 then .int .u8 (xs.getD t 0) else f5 t) := World.rowIs.congr (hrow.set j (.int .u8 (xs.getD j 0))) (fun t _ => by
            by_cases c1 : t = j
            · subst c1; rw [if_pos rfl, if_pos (by omega)]
            · rw [if_neg c1]
              by_cases c3 : t < j
              · rw [if_pos c3, if_pos (by omega)]
              · rw [if_neg c3, if_neg (by omega)])
          have hkb2 := hkb.setCell j (.int .u8 (xs.getD j 0))
          generalize xs.getD j 0 = V0 at e0 hst hkb2
          generalize (if j < j then Value.int .u8 (xs.getD j 0) else f5 j) = V at e1
          clear hrow hkb HA1 HX HG HS HHS K5 hc hx hxs k1 hKw 
          go_wp2
          exact ⟨⟨j + 1, by omega, by go_num, hst, hkb2⟩, by simp [intOf]; omega⟩
        · have K6 : Kp w1 wr := hkb.kp K5 hL
          skip
          have al : Arr wr (some ⟨L, 0, none⟩) xs := Or.inr ⟨L, 0, rfl, fun t ht => by
            rw [Nat.zero_add, hrow.cell (by omega), if_pos (by omega)]⟩
          have hg := HG _ c2 wr hcap al
          clear hrow hkb K5 al hx hxs k1 
          go_wp2_with (first | (go_at_call 21; refine hg.mono ?_; rintro e w6 ⟨rfl, g6⟩; replace K6 := Kp.trans K6 g6; have hs := HHS none _ 0 c1 _ (Or.inl hps) (HA1.out.grown K6)) | (go_at_call 27; refine hs.mono ?_; rintro e w7 ⟨rfl, g7⟩))
          replace K6 := Kp.trans K6 g7
          clear hs hg g6 g7 HG HX
          go_loopw [11] (fun i wr => i = .int .i64 0 ∧ wr = w7) (fun _ _ => 0)
          case atStart => exact ⟨rfl, rfl⟩
          case round =>
            obtain ⟨rfl, hw⟩ := hrel
            rw [hw]
            clear hw wr
            have hs := HHS none p1 0 c1 w7 (Or.inl hps) (HA1.out.grown K6)
            have K8 := K6
            go_wp2_with (first | (go_at_call 27; refine hs.mono ?_; rintro e w8 ⟨rfl, g8⟩))
            replace K8 := Kp.trans K8 g8
            clear hs g8
            have hq0 : OG FLV 31 w8 w1.heap.size (.slice none 0 0) ([] ++ List.replicate 0 (4619567317775286272, 4620693217682128896)) := by
              rw [List.replicate_zero]
              exact OG.nil _ _ _ _
            have hOB : ∀ k, (Value.slice none 0 0).ownBlock = some k → w8.heap.size ≤ k := fun k hk => by simp [Value.ownBlock] at hk
            have a8 : AG FLV w8 none ps := Or.inl hps
            have b8 := HA1.out.grown K8
            have HBS : Hid (∀ a, p1 = some a → a.block < w1.heap.size ∨ ps = []) := by
              show ∀ a, p1 = some a → a.block < w1.heap.size ∨ ps = []
              intro a ha
              rcases HA1.out with h | ⟨b, off, h1, h2⟩
              · exact Or.inr h
              · by_cases hps9 : ps = []
                · exact Or.inr hps9
                · rw [h1] at ha
                  cases ha
                  exact Or.inl (cell_lt (h2 0 (by cases ps with | nil => exact absurd rfl hps9 | cons _ _ => simp)).1)
            have hw1 := K8.size
            have hKw8 : Kp w w8 := Kp.trans k1 K8
            clear HA1 K8 
            go_loopw [12, 13] (fun a i wr => ∃ (v : Value) (j : Nat), v = a ∧ j ≤ 40 ∧ i = .int .i64 j ∧ OG FLV 31 wr w1.heap.size v (([] : List (Nat × Nat)) ++ List.replicate j (4619567317775286272, 4620693217682128896)) ∧ (∀ k, v.ownBlock = some k → w8.heap.size ≤ k) ∧ AG FLV wr none ps ∧ AG ULV wr p1 ps ∧ w8.heap.size ≤ wr.heap.size ∧ Kp w wr) (fun _ i _ => 40 - (intOf i).toNat)
            case atStart => exact ⟨_, 0, rfl, Nat.zero_le _, rfl, hq0, hOB, a8, b8, Nat.le_refl _, hKw8⟩
            case round =>
              obtain ⟨v, j, rfl, hj, rfl, hown, hob, aT, aW, hsz, hkp⟩ := hrel
              clear hq0 hOB a8 b8 hKw8
              have hlen : (([] : List (Nat × Nat)) ++ List.replicate j (4619567317775286272, 4620693217682128896)).length = 0 + j := by simp
              by_cases cj : j < 40
              · have f1 : (wr.alloc (.cells #[.float .f64 4619567317775286272, .float .f64 4620693217682128896] 31)).cell? ⟨wr.heap.size, 0, none⟩ = some (.float .f64 4619567317775286272) := (Fq.H2.new wr (.float .f64 4619567317775286272) (.float .f64 4620693217682128896) 31).1
                have f2 : (wr.alloc (.cells #[.float .f64 4619567317775286272, .float .f64 4620693217682128896] 31)).cell? ⟨wr.heap.size, 0 + 1, none⟩ = some (.float .f64 4620693217682128896) := (Fq.H2.new wr (.float .f64 4619567317775286272) (.float .f64 4620693217682128896) 31).2.1
                obtain ⟨v', w9, hap, oap, hgr, hat⟩ := appP_run (wr.alloc (.cells #[.float .f64 4619567317775286272, .float .f64 4620693217682128896] 31)) w1.heap.size v _ wr.heap.size 0 4619567317775286272 4620693217682128896 1 (hown.kp ((Kp.refl wr).alloc _)) f1 f2 (by rw [hlen]; omega) (by simp; omega)
                rw [List.append_assoc, ← List.replicate_succ'] at oap
                have ka := (Kp.refl wr).alloc (.cells #[.float .f64 4619567317775286272, .float .f64 4620693217682128896] 31)
                have aT9 : AG FLV w9 none ps := (aT.grown ka).far hgr (fun a ha he => by cases ha)
                have aW9 : AG ULV w9 p1 ps := by
                  by_cases hps9 : ps = []
                  · exact Or.inl hps9
                  · exact (aW.grown ka).far hgr (fun a ha he => by
                      have h := hob _ he
                      rcases HBS.out a ha with h1 | h1
                      · omega
                      · exact hps9 h1)
                have hob9 : ∀ k, v'.ownBlock = some k → w8.heap.size ≤ k := fun k hk => by
                  rcases hat with h | h
                  · exact hob k (by rw [← h]; exact hk)
                  · rw [h] at hk
                    simp at hk
                    omega
                have hK9 : Kp w w9 := (hkp.alloc _).grown hgr (fun k hk => Nat.le_trans (Below.size k1) (og_block hown k hk))
                have hs9 : w8.heap.size ≤ w9.heap.size := by
                  have := hgr.size
                  simp at this
                  omega
                clear hown hob aT aW hkp hgr hat ka f1 f2 hlen HBS HS HHS 
                go_wp2_with (first | (at_builtin; refine wpList_app _ (by rfl) _ _ 50 rfl _ _ _ _ rfl rfl hap ?_; clear hap))
                exact ⟨⟨_, j + 1, rfl, by omega, by go_num, oap, hob9, aT9, aW9, hs9, hK9⟩, by simp [intOf]; omega⟩
              · have hj40 : j = 40 := by omega
                subst hj40
                have hs := HHS none p1 0 c1 wr aT aW
                obtain ⟨pg, cg, rfl, -, -⟩ := hown.arr
                rw [hlen]
                have f9 : (((0 + 40 : Nat) : Int) == (0 : Int) + 40) = true := by simp
                clear hown hob aT aW HBS HS HHS hlen 
                go_wp2_with (first | (go_at_call 27; refine hs.mono ?_; rintro e w9 ⟨rfl, g9⟩))
                exact bodyPost_ret (v := .bool true) (by simp [results, Try.results7, go_sem]) rfl ⟨rfl, Kp.trans hkp g9⟩
end B8
end Go.Proofs.Ytbcjhmdkpkmieab
namespace Go.Proofs.Ytbcjhmdkpkmieab
open Go.RowKit
open Go
namespace B8
set_option linter.unusedVariables false
set_option maxRecDepth 20000 in
set_option maxHeartbeats 4000000 in
theorem partsY_ (p : Option Addr) (c N n : Nat) (xs : List Int) (ps : List (Nat × Nat)) (hxs : xs.length = N) (hn : ps.length = n) (hN : N ≤ 1048576) (hnb : n ≤ 32) (hxn : xs ≠ []) (w : World) (hx : Arr w p xs)
    (HR : ∀ W : World, Kp w W → Calls Try.prog 26 #[.slice p N c] W fun e w' => ∃ v, e = .returned (.tuple #[v, .int .i64 0]) ∧ OG ULV 25 w' W.heap.size v ps ∧ Kp W w')
    (HC : ∀ W : World, Kp w W → Calls Try.prog 23 #[.slice p N c] W fun e w' => ∃ v, e = .returned v ∧ Own w' W.heap.size v xs ∧ Kp W w')
    (HG : ∀ (q : Option Addr) (d : Nat) (W : World), N ≤ d → Arr W q xs → Calls Try.prog 21 #[.slice q N d] W fun e w' => ∃ G, e = .returned (.tuple #[.slice (some ⟨G, 0, none⟩) n n, .int .i64 0]) ∧ W.heap.size ≤ G ∧ RG w' G n (fun i => ps.getD i (0, 0)) ∧ Kp W w')
    (HS : ∀ (p q : Option Addr) (c d : Nat) (W : World), AG FLV W p ps → AG ULV W q ps → Calls Try.prog 27 #[.slice p n c, .slice q n d] W fun e w' => e = .returned (.bool true) ∧ Kp W w') : Calls Try.prog 7 #[.slice p N c] w fun e w' => e = .returned (.bool true) ∧ Kp w w' := by
  go_enter Try.func7, Try.ntmps7
  go_wp2_with (first | (go_at_call 8; refine (awake_ _).mono ?_; rintro e wa ⟨rfl, ka⟩) | (go_at_call 26; refine (HR _ ka).mono ?_; rintro e w1 ⟨v1, rfl, o1, g1⟩; have k1 : Kp w w1 := Kp.trans ka g1; obtain ⟨p1, c1, rfl, a1, -⟩ := o1.arr; rw [hn]) | (go_at_call 23; refine (HC _ k1).mono ?_; rintro e w2 ⟨v2, rfl, o2, g2⟩; have k2 : Kp w1 w2 := g2; obtain ⟨L, c2, f2, hv2, hL, hrow2, hcap⟩ := own_row o2 hxn; subst hv2; obtain ⟨p2', c2', hv2, l2, -⟩ := o2.arr; obtain ⟨rfl, -⟩ : some (⟨L, 0, none⟩ : Addr) = p2' ∧ c2 = c2' := (by simpa using hv2); rw [hxs] at hcap; rw [hxs]) | (go_at_call 21; refine (HG _ c2 _ hcap l2).mono ?_; rintro e w3 ⟨O, rfl, hO, hR3, g3⟩; have k3 : Kp w2 w3 := g3; have hs := HS _ _ n c1 _ (RG.ag hR3 ps hn (fun i _ => rfl)) (a1.grown (Kp.trans k2 k3))) | (go_at_call 27; refine hs.mono ?_; rintro e w4 ⟨rfl, g4⟩; have k4 : Kp w2 w4 := Kp.trans k3 g4))
  have K4 : Kp w1 w4 := Kp.trans k2 k4
  have HA1 : Hid (AG ULV w1 p1 ps) := a1
  have HX : Hid (Arr w p xs ∧ xs.length = N ∧ Kp w w1) := ⟨hx, hxs, k1⟩
  have HHS := HS
  have hR4 := hR3.grown g4
  have hRL4 : ∃ f, w4.rowIs L 5 c2 f := ⟨_, rowIs_grown hrow2 k4⟩
  have hLO : L < O := by have := World.rowIs.lt hrow2; omega
  have hO1 : w1.heap.size ≤ O := Nat.le_trans (Below.size k2) hO
  clear HR HC o1 a1 g1 g2 g3 g4 ka k2 k3 k4 hs o2 hR3 hrow2
  go_loopw [8] (fun i wr => ∃ j : Nat, j ≤ N ∧ i = .int .i64 j ∧ (∃ f, wr.rowIs L 5 c2 f) ∧ Kb L w4 wr) (fun i _ => N - (intOf i).toNat)
  case atStart => exact ⟨0, Nat.zero_le _, rfl, hRL4, Kb.refl _ _⟩
  case round =>
    obtain ⟨j, hj, rfl, ⟨f, hrow⟩, hkb⟩ := hrel
    clear hRL4
    by_cases cj : j < N
    · have e1 := hrow.cell (i := j) (by omega)
      have e2 := hrow.frozen j
      have hst : ∃ f', (wr.setCell ⟨L, j, none⟩ (.int .u8 90)).rowIs L 5 c2 f' := ⟨_, hrow.set j (.int .u8 90)⟩
      have hkb2 := hkb.setCell j (.int .u8 90)
      generalize f j = V at e1
      clear hrow hkb HA1 HX HG HS HHS K4 hR4
      go_wp2
      exact ⟨⟨j + 1, by omega, by go_num, hst, hkb2⟩, by simp [intOf]; omega⟩
    · have K5 : Kp w1 wr := hkb.kp K4 hL
      have hR5 : RG wr O n (fun i => ps.getD i (0, 0)) := rowIs_kb hR4 hkb (by omega)
      have hs := HHS (some ⟨O, 0, none⟩) p1 n c1 wr (RG.ag hR5 ps hn (fun i _ => rfl)) (HA1.out.grown K5)
      have hRL5 : ∃ f, wr.rowIs L 5 c2 f := ⟨_, hrow⟩
      clear hrow hkb K4 hR4
      go_wp2_with (first | (go_at_call 27; refine hs.mono ?_; rintro e w5 ⟨rfl, g5⟩))
      replace K5 := Kp.trans K5 g5
      replace hR5 := hR5.grown g5
      replace hRL5 : ∃ f, w5.rowIs L 5 c2 f := by obtain ⟨f, h⟩ := hRL5; exact ⟨f, rowIs_grown h g5⟩
      clear hs g5
      obtain ⟨f5, hrow5⟩ := hRL5
      go_loopw [9] (fun i wr => ∃ j : Nat, j ≤ N ∧ i = .int .i64 j ∧ wr.rowIs L 5 c2 (fun t => if t < j then .int .u8 (xs.getD t 0) else f5 t) ∧ Kb L w5 wr) (fun i _ => N - (intOf i).toNat)
      case atStart => exact ⟨0, Nat.zero_le _, rfl, hrow5.congr (fun t _ => by rw [if_neg (by omega)]), Kb.refl _ _⟩
      case round =>
        obtain ⟨j, hj, rfl, hrow, hkb⟩ := hrel
        clear hrow5
        obtain ⟨hx, hxs, k1⟩ := HX.out
        by_cases cj : j < N
        · obtain ⟨b, off, rfl, hc⟩ := hx.at (k := j) (by omega)
          have hKw : Kp w wr := Kp.trans k1 (hkb.kp K5 hL)
          have e0 := kkeep hKw (hc j (by omega))
          have e1 := hrow.cell (i := j) (by omega)
          have e2 := hrow.frozen j
          have hst : (wr.setCell ⟨L, j, none⟩ (.int .u8 (xs.getD j 0))).rowIs L 5 c2 (fun t => if t < j + 1 then .int .u8 (xs.getD t 0) else f5 t) := World.rowIs.congr (hrow.set j (.int .u8 (xs.getD j 0))) (fun t _ => by
            by_cases c1 : t = j
            · subst c1; rw [if_pos rfl, if_pos (by omega)]
            · rw [if_neg c1]
              by_cases c3 : t < j
              · rw [if_pos c3, if_pos (by omega)]
              · rw [if_neg c3, if_neg (by omega)])
          have hkb2 := hkb.setCell j (.int .u8 (xs.getD j 0))
          generalize xs.getD j 0 = V0 at e0 hst hkb2
          generalize (if j < j then Value.int .u8 (xs.getD j 0) else f5 j) = V at e1
          clear hrow hkb HA1 HX HG HS HHS K5 hc hx hxs k1 hKw hR5
          go_wp2
          exact ⟨⟨j + 1, by omega, by go_num, hst, hkb2⟩, by simp [intOf]; omega⟩
        · have K6 : Kp w1 wr := hkb.kp K5 hL
          have hR6 : RG wr O n (fun i => ps.getD i (0, 0)) := rowIs_kb hR5 hkb (by omega)
          have al : Arr wr (some ⟨L, 0, none⟩) xs := Or.inr ⟨L, 0, rfl, fun t ht => by
            rw [Nat.zero_add, hrow.cell (by omega), if_pos (by omega)]⟩
          have hg := HG _ c2 wr hcap al
          clear hrow hkb K5 al hx hxs k1 hR5
          have hOlt := World.rowIs.lt hR6
          go_wp2_with (first | (go_at_call 21; refine hg.mono ?_; rintro e w6 ⟨T, rfl, hT, hR7, g6⟩; replace K6 := Kp.trans K6 g6; replace hR6 := hR6.grown g6; have hs := HHS _ _ n c1 _ (RG.ag hR7 ps hn (fun i _ => rfl)) (HA1.out.grown K6)) | (go_at_call 27; refine hs.mono ?_; rintro e w7 ⟨rfl, g7⟩))
          replace K6 := Kp.trans K6 g7
          replace hR6 := hR6.grown g7
          replace hR7 := hR7.grown g7
          have hOT : O < T := by omega
          clear hs hg g6 g7 HG HX
          go_loopw [11] (fun i wr => ∃ j : Nat, j ≤ n ∧ i = .int .i64 j ∧ (∃ q, RG wr O n q) ∧ Kb O w7 wr) (fun i _ => n - (intOf i).toNat)
          case atStart => exact ⟨0, Nat.zero_le _, rfl, ⟨_, hR6⟩, Kb.refl _ _⟩
          case round =>
            obtain ⟨j, hj, rfl, ⟨q, hrow⟩, hkb⟩ := hrel
            clear hR6
            by_cases cj : j < n
            · have e1 := World.rowIs.cell hrow (i := j * 2) (by omega)
              have e2 := World.rowIs.cell hrow (i := j * 2 + 1) (by omega)
              have e3 := World.rowIs.frozen hrow (j * 2)
              have e4 := World.rowIs.frozen hrow (j * 2 + 1)
              have hst : ∃ q', RG ((wr.setCell ⟨O, j * 2, none⟩ (.float .f64 4619567317775286272)).setCell ⟨O, j * 2 + 1, none⟩ (.float .f64 4620693217682128896)) O n q' := ⟨_, hrow.put j 4619567317775286272 4620693217682128896⟩
              have hkb2 := (hkb.setCell (j * 2) (.float .f64 4619567317775286272)).setCell (j * 2 + 1) (.float .f64 4620693217682128896)
              generalize (if j * 2 % 2 = 0 then FLV (q (j * 2 / 2)).1 else FLV (q (j * 2 / 2)).2) = V1 at e1
              generalize (if (j * 2 + 1) % 2 = 0 then FLV (q ((j * 2 + 1) / 2)).1 else FLV (q ((j * 2 + 1) / 2)).2) = V2 at e2
              clear hrow hkb HA1 HS HHS K6 hR7
              go_wp2
              exact ⟨⟨j + 1, by omega, by go_num, hst, hkb2⟩, by simp [intOf]; omega⟩
            · have K8 : Kp w1 wr := hkb.kp K6 hO1
              have hR8 : RG wr T n (fun i => ps.getD i (0, 0)) := rowIs_kb hR7 hkb (by omega)
              have hs := HHS (some ⟨T, 0, none⟩) p1 n c1 wr (RG.ag hR8 ps hn (fun i _ => rfl)) (HA1.out.grown K8)
              obtain ⟨q8, hRO⟩ : ∃ q, RG wr O n q := ⟨q, hrow⟩
              clear hrow hkb K6 hR7
              go_wp2_with (first | (go_at_call 27; refine hs.mono ?_; rintro e w8 ⟨rfl, g8⟩))
              replace K8 := Kp.trans K8 g8
              replace hR8 := hR8.grown g8
              replace hRO := hRO.grown g8
              clear hs g8
              have hTlt := World.rowIs.lt hR8
              have hq0 : OG FLV 31 w8 w1.heap.size (.slice (some ⟨O, 0, none⟩) n n) ((List.range n).map q8 ++ List.replicate 0 (4619567317775286272, 4620693217682128896)) := by
                rw [List.replicate_zero, List.append_nil]
                exact og_row hRO hO1 (by omega)
              have hOB : ∀ k, (Value.slice (some ⟨O, 0, none⟩) n n).ownBlock = some k → k = O ∨ w8.heap.size ≤ k := fun k hk => by
                simp [Value.ownBlock] at hk
                exact Or.inl hk.symm
              have a8 : AG FLV w8 (some ⟨T, 0, none⟩) ps := RG.ag hR8 ps hn (fun i _ => rfl)
              have HTT : Hid (T < w8.heap.size ∧ O < T) := ⟨hTlt, hOT⟩
              clear hR8 hRO hTlt hOT
              have b8 := HA1.out.grown K8
              have HBS : Hid (∀ a, p1 = some a → a.block < w1.heap.size ∨ ps = []) := by
                show ∀ a, p1 = some a → a.block < w1.heap.size ∨ ps = []
                intro a ha
                rcases HA1.out with h | ⟨b, off, h1, h2⟩
                · exact Or.inr h
                · by_cases hps9 : ps = []
                  · exact Or.inr hps9
                  · rw [h1] at ha
                    cases ha
                    exact Or.inl (cell_lt (h2 0 (by cases ps with | nil => exact absurd rfl hps9 | cons _ _ => simp)).1)
              have hw1 := K8.size
              have hKw8 : Kp w w8 := Kp.trans k1 K8
              clear HA1 K8 
              go_loopw [12, 13] (fun a i wr => ∃ (v : Value) (j : Nat), v = a ∧ j ≤ 40 ∧ i = .int .i64 j ∧ OG FLV 31 wr w1.heap.size v ((List.range n).map q8 ++ List.replicate j (4619567317775286272, 4620693217682128896)) ∧ (∀ k, v.ownBlock = some k → k = O ∨ w8.heap.size ≤ k) ∧ AG FLV wr (some ⟨T, 0, none⟩) ps ∧ AG ULV wr p1 ps ∧ w8.heap.size ≤ wr.heap.size ∧ Kp w wr) (fun _ i _ => 40 - (intOf i).toNat)
              case atStart => exact ⟨_, 0, rfl, Nat.zero_le _, rfl, hq0, hOB, a8, b8, Nat.le_refl _, hKw8⟩
              case round =>
                obtain ⟨v, j, rfl, hj, rfl, hown, hob, aT, aW, hsz, hkp⟩ := hrel
                clear hq0 hOB a8 b8 hKw8
                have hlen : ((List.range n).map q8 ++ List.replicate j (4619567317775286272, 4620693217682128896)).length = n + j := by simp
                by_cases cj : j < 40
                · have f1 : (wr.alloc (.cells #[.float .f64 4619567317775286272, .float .f64 4620693217682128896] 31)).cell? ⟨wr.heap.size, 0, none⟩ = some (.float .f64 4619567317775286272) := (Fq.H2.new wr (.float .f64 4619567317775286272) (.float .f64 4620693217682128896) 31).1
                  have f2 : (wr.alloc (.cells #[.float .f64 4619567317775286272, .float .f64 4620693217682128896] 31)).cell? ⟨wr.heap.size, 0 + 1, none⟩ = some (.float .f64 4620693217682128896) := (Fq.H2.new wr (.float .f64 4619567317775286272) (.float .f64 4620693217682128896) 31).2.1
                  obtain ⟨v', w9, hap, oap, hgr, hat⟩ := appP_run (wr.alloc (.cells #[.float .f64 4619567317775286272, .float .f64 4620693217682128896] 31)) w1.heap.size v _ wr.heap.size 0 4619567317775286272 4620693217682128896 1 (hown.kp ((Kp.refl wr).alloc _)) f1 f2 (by rw [hlen]; omega) (by simp; omega)
                  rw [List.append_assoc, ← List.replicate_succ'] at oap
                  have ka := (Kp.refl wr).alloc (.cells #[.float .f64 4619567317775286272, .float .f64 4620693217682128896] 31)
                  have aT9 : AG FLV w9 (some ⟨T, 0, none⟩) ps := (aT.grown ka).far hgr (fun a ha he => by cases ha; have h := hob _ he; obtain ⟨t1, t2⟩ := HTT.out; simp only at h; omega)
                  have aW9 : AG ULV w9 p1 ps := by
                    by_cases hps9 : ps = []
                    · exact Or.inl hps9
                    · exact (aW.grown ka).far hgr (fun a ha he => by
                        have h := hob _ he
                        rcases HBS.out a ha with h1 | h1
                        · omega
                        · exact hps9 h1)
                  have hob9 : ∀ k, v'.ownBlock = some k → k = O ∨ w8.heap.size ≤ k := fun k hk => by
                    rcases hat with h | h
                    · exact hob k (by rw [← h]; exact hk)
                    · rw [h] at hk
                      simp at hk
                      exact Or.inr (by omega)
                  have hK9 : Kp w w9 := (hkp.alloc _).grown hgr (fun k hk => Nat.le_trans (Below.size k1) (og_block hown k hk))
                  have hs9 : w8.heap.size ≤ w9.heap.size := by
                    have := hgr.size
                    simp at this
                    omega
                  clear hown hob aT aW hkp hgr hat ka f1 f2 hlen HBS HS HHS HTT
                  go_wp2_with (first | (at_builtin; refine wpList_app _ (by rfl) _ _ 50 rfl _ _ _ _ rfl rfl hap ?_; clear hap))
                  exact ⟨⟨_, j + 1, rfl, by omega, by go_num, oap, hob9, aT9, aW9, hs9, hK9⟩, by simp [intOf]; omega⟩
                · have hj40 : j = 40 := by omega
                  subst hj40
                  have hs := HHS (some ⟨T, 0, none⟩) p1 n c1 wr aT aW
                  obtain ⟨pg, cg, rfl, -, -⟩ := hown.arr
                  rw [hlen]
                  have f9 : (((n + 40 : Nat) : Int) == (n : Int) + 40) = true := by simp
                  clear hown hob aT aW HBS HS HHS hlen HTT
                  go_wp2_with (first | (go_at_call 27; refine hs.mono ?_; rintro e w9 ⟨rfl, g9⟩))
                  exact bodyPost_ret (v := .bool true) (by simp [results, Try.results7, go_sem]) rfl ⟨rfl, Kp.trans hkp g9⟩
end B8
end Go.Proofs.Ytbcjhmdkpkmieab
namespace Go.Proofs.Ytbcjhmdkpkmieab
open Go.RowKit
open Go
namespace B8
theorem partslaw_ (p : Option Addr) (c : Nat) (xs : List Int) (w : World) (hx : Arr w p xs) (hw : Wb xs) (hc : xs.length ≤ c) (lx : xs.length ≤ 1048576) : Calls Try.prog 7 #[.slice p xs.length c] w fun e w' => e = .returned (.bool true) ∧ Kp w w' := by
  obtain ⟨N, hN⟩ : ∃ N, xs.length = N := ⟨_, rfl⟩
  rw [hN] at hc lx ⊢
  have HR := fun (W : World) (k : Kp w W) => rgetbox_ p c N xs W (hx.grown k) hN hw hc lx
  have HC : ∀ W : World, Kp w W → Calls Try.prog 23 #[.slice p N c] W fun e w' => ∃ v, e = .returned v ∧ Own w' W.heap.size v xs ∧ Kp W w' := by
    intro W k
    have := copied_ p c xs W (hx.grown k) (by rw [hN]; omega)
    rw [hN] at this
    exact this
  have HS := fun (p q : Option Addr) (c d : Nat) (W : World) (h1 : AG FLV W p (bL xs)) (h2 : AG ULV W q (bL xs)) => samebox_ p q c d (bL xs) W h1 h2
  cases hb : bOk xs
  · have e1 : bL xs = [] := by unfold bL; rw [hb]; rfl
    have e2 : bE xs = 130 := by unfold bE; rw [hb]; rfl
    rw [e1, e2] at HR
    rw [e1] at HS
    have HG : ∀ (q : Option Addr) (d : Nat) (W : World), N ≤ d → Arr W q xs → Calls Try.prog 21 #[.slice q N d] W fun e w' => e = .returned (.tuple #[.slice none 0 0, .int .i64 130]) ∧ Kp W w' := by
      intro q d W hd ha
      refine (getboxr_ q d N xs W ha hN hw hd lx).mono ?_
      rintro e w' ⟨p', d', h1, h2, h3⟩
      rw [e1, e2] at h1
      rw [e1, e2] at h2
      rcases h2 with ⟨-, -, rfl, rfl⟩ | ⟨h4, -⟩
      · exact ⟨h1, h3⟩
      · exact absurd h4 (by decide)
    have HS' := fun (p q : Option Addr) (c d : Nat) (W : World) (h1 : AG FLV W p []) (h2 : AG ULV W q []) => HS p q c d W h1 h2 (by decide)
    by_cases hz : N = 0
    · subst hz
      exact partsZ_ p c 0 0 xs [] hN rfl lx (by decide) rfl w hx HR HC HG HS'
    · exact partsN_ p c N 0 xs [] hN rfl lx (by decide) (fun h => hz (by rw [← hN, h]; rfl)) rfl w hx HR HC HG HS'
  · obtain ⟨h0, h1, h2, h3⟩ := bOk_parts hb
    have hl := bL_len hb
    have e2 : bE xs = 0 := by unfold bE; rw [hb]; rfl
    rw [e2] at HR
    refine partsY_ p c N (bN xs) xs (bL xs) hN hl lx h1 (fun h => by rw [h] at h0; simp at h0) w hx HR HC ?_ ?_
    · intro q d W hd ha
      refine (getboxr_ q d N xs W ha hN hw hd lx).mono ?_
      rintro e w' ⟨p', d', h4, h5, h6⟩
      rw [e2, hl] at h4
      rw [e2] at h5
      rcases h5 with ⟨h7, -⟩ | ⟨-, G, rfl, h7, h8, h9⟩
      · exact absurd h7 (by decide)
      · rw [hl] at h7 h9
        subst h9
        exact ⟨G, h4, h8, h7, h6⟩
    · intro p q c d W a1 a2
      have := HS p q c d W a1 a2 (by rw [hl]; omega)
      rw [hl] at this
      exact this
end B8
end Go.Proofs.Ytbcjhmdkpkmieab
