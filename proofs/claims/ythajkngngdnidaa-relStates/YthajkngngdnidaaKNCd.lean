import Derived.Test.YthajkngngdnidaaProg
import Derived.Test.YthajkngngdnidaaKXA0
import Derived.Test.YthajkngngdnidaaKQM
import Derived.Test.YthajkngngdnidaaKQA
import Derived.Test.YthajkngngdnidaaKXQU
import Derived.Test.YthajkngngdnidaaKEM
import Derived.Test.YthajkngngdnidaaKEN
import Derived.Test.YthajkngngdnidaaKEA
import Derived.Test.YthajkngngdnidaaKEB
import Derived.Test.YthajkngngdnidaaKEH
import Derived.Test.YthajkngngdnidaaKEK
import Derived.Test.YthajkngngdnidaaKEO
import Derived.Test.YthajkngngdnidaaKER
import Derived.Test.YthajkngngdnidaaKES
import Derived.Test.YthajkngngdnidaaKNRv
import Derived.Test.YthajkngngdnidaaKNRm
import Derived.Test.YthajkngngdnidaaKNRa
import Derived.Test.YthajkngngdnidaaKNRj
import Derived.Test.YthajkngngdnidaaKNCc
import Derived.WalkKit
import Derived.ProofKit
import Derived.RowKit3
import Derived.WalkSpells
import Derived.StillTactics
import Derived.Deep.QuietTactic
import Derived.BigQuiet
import Derived.Below
import Derived.Deep.OwnRows
import Derived.OwnWalk
import Derived.Laws.BitsAllLaws
import Derived.Laws.Slices
import Derived.Laws.Bits64b
import Derived.Laws.FloatArith
import Derived.Deep.RegionHeld3
import Derived.Deep.CutRange
import Derived.Deep.DeepCutAuto
namespace Go.Proofs.Ythajkngngdnidaa
open Go.RowKit
set_option maxRecDepth 20000 in
set_option maxHeartbeats 4000000 in
theorem eachSome_ (q : Int) (N1 N2 : Bool) (P1 Q1 P2 Q2 n : Nat) (hn : 1 ≤ n) (hn2 : n ≤ 1000) (h1 h2 : Nat → Bool) (Q : Nat → Nat → Bool) (hh1 : ∀ (p : Nat) (w : World), Calls Try.prog 62 #[.agg #[.bool N1, .int .i64 (P1 : Int), .int .i64 (Q1 : Int)], .int .i64 (p : Int)] w fun e w' => e = .returned (.bool (h1 p)) ∧ Kp w w') (hh2 : ∀ (p : Nat) (w : World), Calls Try.prog 62 #[.agg #[.bool N2, .int .i64 (P2 : Int), .int .i64 (Q2 : Int)], .int .i64 (p : Int)] w fun e w' => e = .returned (.bool (h2 p)) ∧ Kp w w') (hq : ∀ (a b : Nat) (w : World), Calls Try.prog 63 #[.int .i64 q, .int .i64 (a : Int), .int .i64 (b : Int)] w fun e w' => e = .returned (.bool (Q a b)) ∧ w' = w) (w : World) : Calls Try.prog 50 #[.int .i64 q, .agg #[.bool N1, .int .i64 (P1 : Int), .int .i64 (Q1 : Int)], .agg #[.bool N2, .int .i64 (P2 : Int), .int .i64 (Q2 : Int)], .int .i64 (n : Int)] w fun e w' => ∃ b, e = .returned (.bool b) ∧ (b = true ↔ ∀ p, 1 ≤ p → p < n → p % 2 = 0 → h1 p = true → ∃ t, 1 ≤ t ∧ t < n ∧ h2 t = true ∧ Q p t = true) ∧ Kp w w' := by
  have qa0 : H3 ((w.alloc (.cells #[.bool N1, .int .i64 (P1 : Int), .int .i64 (Q1 : Int)] 50)).alloc (.cells #[.bool N2, .int .i64 (P2 : Int), .int .i64 (Q2 : Int)] 50)) w.heap.size (.bool N1) (.int .i64 (P1 : Int)) (.int .i64 (Q1 : Int)) := H3.past (H3.new w _ _ _ 50) _ _
  have qb0 : H3 ((w.alloc (.cells #[.bool N1, .int .i64 (P1 : Int), .int .i64 (Q1 : Int)] 50)).alloc (.cells #[.bool N2, .int .i64 (P2 : Int), .int .i64 (Q2 : Int)] 50)) (w.heap.size + 1) (.bool N2) (.int .i64 (P2 : Int)) (.int .i64 (Q2 : Int)) := by
    have h := H3.new (w.alloc (.cells #[.bool N1, .int .i64 (P1 : Int), .int .i64 (Q1 : Int)] 50)) (.bool N2) (.int .i64 (P2 : Int)) (.int .i64 (Q2 : Int)) 50
    rw [World.size_alloc] at h
    exact h
  have k0 : Kp w ((w.alloc (.cells #[.bool N1, .int .i64 (P1 : Int), .int .i64 (Q1 : Int)] 50)).alloc (.cells #[.bool N2, .int .i64 (P2 : Int), .int .i64 (Q2 : Int)] 50)) := (((Kp.refl w).alloc _).alloc _)
  go_enter Try.func50, Try.ntmps50
  go_wp2
  generalize hW : (w.alloc (.cells #[.bool N1, .int .i64 (P1 : Int), .int .i64 (Q1 : Int)] 50)).alloc (.cells #[.bool N2, .int .i64 (P2 : Int), .int .i64 (Q2 : Int)] 50) = W at qa0 qb0 k0 ⊢
  clear hW
  go_loopw [9] (fun a wr => ∃ p : Nat, a = .int .i64 p ∧ 1 ≤ p ∧ p ≤ n ∧ Hid (∀ p', 1 ≤ p' → p' < p → p' % 2 = 0 → h1 p' = true → ∃ t, 1 ≤ t ∧ t < n ∧ h2 t = true ∧ Q p' t = true) ∧ Kp W wr) (fun a _ => n - (intOf a).toNat)
  case atStart => exact ⟨1, rfl, by omega, by omega, fun p' h1 h2 => by omega, Kp.refl _⟩
  case round =>
    obtain ⟨p, rfl, hp1, hp2, HP, kr⟩ := hrel
    by_cases cp : p < n
    case neg =>
      have hb : Hid (∀ p, 1 ≤ p → p < n → p % 2 = 0 → h1 p = true → ∃ t, 1 ≤ t ∧ t < n ∧ h2 t = true ∧ Q p t = true) := fun p' x1 x2 x3 x4 => HP.out p' x1 (by omega) x3 x4
      clear HP
      have kf := Kp.trans k0 kr
      go_wp2
      exact bodyPost_ret (v := .bool true) (by simp [results, Try.results50, go_sem]) rfl ⟨true, rfl, ⟨fun _ => hb.out, fun _ => rfl⟩, kf⟩
    case pos =>
      have t0 : (p : Int).tmod 2 = ((p % 2 : Nat) : Int) := rfl
      have kk : Kp W wr := kr; have qa := H3.keep qa0 kk; have qb := H3.keep qb0 kk; obtain ⟨a0, a1, a2, a3, a4, a5⟩ := id qa; obtain ⟨b0, b1, b2, b3, b4, b5⟩ := id qb
      rcases (by omega : p % 2 = 1 ∨ p % 2 = 0) with ce | ce
      · rw [ce] at t0
        have hN : Hid (∀ p', 1 ≤ p' → p' < p + 1 → p' % 2 = 0 → h1 p' = true → ∃ t, 1 ≤ t ∧ t < n ∧ h2 t = true ∧ Q p' t = true) := fun p' x1 x2 x3 x4 => HP.out p' x1 (by rcases (by omega : p' < p ∨ p' = p) with h | h; exact h; rw [h] at x3; omega) x3 x4
        clear HP ce
        go_wp2_with (first | (go_at_call_of 62 (Value.agg #[.bool N1, .int .i64 (P1 : Int), .int .i64 (Q1 : Int)]); refine (hh1 _ _).mono ?_; rintro e wx ⟨rfl, gx⟩; replace kk := Kp.trans kk gx; replace qa := H3.keep qa gx; replace qb := H3.keep qb gx; clear gx; obtain ⟨a0, a1, a2, a3, a4, a5⟩ := id qa; obtain ⟨b0, b1, b2, b3, b4, b5⟩ := id qb))
        exact ⟨⟨p + 1, by go_num, by omega, by omega, hN, kk⟩, by simp [intOf]; omega⟩
      rw [ce] at t0
      rcases hc : h1 p with _ | _
      · have hN : Hid (∀ p', 1 ≤ p' → p' < p + 1 → p' % 2 = 0 → h1 p' = true → ∃ t, 1 ≤ t ∧ t < n ∧ h2 t = true ∧ Q p' t = true) := fun p' x1 x2 x3 x4 => HP.out p' x1 (by rcases (by omega : p' < p ∨ p' = p) with h | h; exact h; rw [h, hc] at x4; cases x4) x3 x4
        clear HP ce
        go_wp2_with (first | (go_at_call_of 62 (Value.agg #[.bool N1, .int .i64 (P1 : Int), .int .i64 (Q1 : Int)]); refine (hh1 _ _).mono ?_; rintro e wx ⟨rfl, gx⟩; replace kk := Kp.trans kk gx; replace qa := H3.keep qa gx; replace qb := H3.keep qb gx; clear gx; obtain ⟨a0, a1, a2, a3, a4, a5⟩ := id qa; obtain ⟨b0, b1, b2, b3, b4, b5⟩ := id qb))
        exact ⟨⟨p + 1, by go_num, by omega, by omega, hN, kk⟩, by simp [intOf]; omega⟩
      have HC : Hid (h1 p = true ∧ p % 2 = 0) := ⟨hc, ce⟩
      clear ce
      go_wp2_with (first | (go_at_call_of 62 (Value.agg #[.bool N1, .int .i64 (P1 : Int), .int .i64 (Q1 : Int)]); refine (hh1 _ _).mono ?_; rintro e wx ⟨rfl, gx⟩; replace kk := Kp.trans kk gx; replace qa := H3.keep qa gx; replace qb := H3.keep qb gx; clear gx; obtain ⟨a0, a1, a2, a3, a4, a5⟩ := id qa; obtain ⟨b0, b1, b2, b3, b4, b5⟩ := id qb))
      clear hc t0 a0 a1 a2 a3 a4 a5 b0 b1 b2 b3 b4 b5
      rename_i wx0
      obtain ⟨wo, hwo⟩ : ∃ wo, wo = wx := ⟨_, rfl⟩
      subst hwo
      have ko := kk
      clear kk qa qb
      obtain ⟨RB, hRB⟩ : ∃ RB : Bool → Nat → Prop, ∀ bb t, RB bb t ↔ (bb = true ↔ ∃ t', 1 ≤ t' ∧ t' < t ∧ h2 t' = true ∧ Q p t' = true) := ⟨fun bb t => (bb = true ↔ ∃ t', 1 ≤ t' ∧ t' < t ∧ h2 t' = true ∧ Q p t' = true), fun _ _ => Iff.rfl⟩
      have HRB : Hid (∀ bb t, RB bb t ↔ (bb = true ↔ ∃ t', 1 ≤ t' ∧ t' < t ∧ h2 t' = true ∧ Q p t' = true)) := hRB
      clear hRB
      go_loopw [10, 11] (fun s i wq => ∃ (t : Nat) (bb : Bool), s = .bool bb ∧ i = .int .i64 t ∧ 1 ≤ t ∧ t ≤ n ∧ RB bb t ∧ Kp W wq) (fun _ i _ => n - (intOf i).toNat)
      case atStart => exact ⟨1, false, rfl, rfl, by omega, by omega, (HRB.out _ _).2 ⟨(fun h => by cases h), (fun ⟨t', h, h', _⟩ => by omega)⟩, ko⟩
      case round =>
        obtain ⟨t, bb, rfl, rfl, ht1, ht2, HB0, kr⟩ := hrel
        have HB : Hid (bb = true ↔ ∃ t', 1 ≤ t' ∧ t' < t ∧ h2 t' = true ∧ Q p t' = true) := (HRB.out _ _).1 HB0
        clear HB0
        by_cases ct : t < n
        case pos =>
          have kk : Kp W wr := kr; have qa := H3.keep qa0 kk; have qb := H3.keep qb0 kk; obtain ⟨a0, a1, a2, a3, a4, a5⟩ := id qa; obtain ⟨b0, b1, b2, b3, b4, b5⟩ := id qb
          rcases hc : h2 t with _ | _
          · have hN : RB bb (t + 1) := by
              refine (HRB.out _ _).2 ⟨fun h => ?_, fun ⟨t', x1, x2, x3, x4⟩ => ?_⟩
              · obtain ⟨t', x1, x2, x3, x4⟩ := HB.out.1 h
                exact ⟨t', x1, by omega, x3, x4⟩
              · rcases (by omega : t' < t ∨ t' = t) with h | h
                · exact HB.out.2 ⟨t', x1, h, x3, x4⟩
                · rw [h, hc] at x3; cases x3
            clear HB HP HC
            go_wp2_with (first | (go_at_call_of 62 (Value.agg #[.bool N2, .int .i64 (P2 : Int), .int .i64 (Q2 : Int)]); refine (hh2 _ _).mono ?_; rintro e wx ⟨rfl, gx⟩; replace kk := Kp.trans kk gx; replace qa := H3.keep qa gx; replace qb := H3.keep qb gx; clear gx; obtain ⟨a0, a1, a2, a3, a4, a5⟩ := id qa; obtain ⟨b0, b1, b2, b3, b4, b5⟩ := id qb) | (go_at_call 63; refine (hq _ _ _).mono ?_; rintro e wx ⟨rfl, hwx⟩; obtain rfl := hwx.symm; clear hwx))
            exact ⟨⟨t + 1, bb, rfl, by go_num, by omega, by omega, hN, kk⟩, by simp [intOf]; omega⟩
          rcases hc2 : Q p t with _ | _
          · have hN : RB bb (t + 1) := by
              refine (HRB.out _ _).2 ⟨fun h => ?_, fun ⟨t', x1, x2, x3, x4⟩ => ?_⟩
              · obtain ⟨t', x1, x2, x3, x4⟩ := HB.out.1 h
                exact ⟨t', x1, by omega, x3, x4⟩
              · rcases (by omega : t' < t ∨ t' = t) with h | h
                · exact HB.out.2 ⟨t', x1, h, x3, x4⟩
                · rw [h, hc2] at x4; cases x4
            clear HB HP HC
            go_wp2_with (first | (go_at_call_of 62 (Value.agg #[.bool N2, .int .i64 (P2 : Int), .int .i64 (Q2 : Int)]); refine (hh2 _ _).mono ?_; rintro e wx ⟨rfl, gx⟩; replace kk := Kp.trans kk gx; replace qa := H3.keep qa gx; replace qb := H3.keep qb gx; clear gx; obtain ⟨a0, a1, a2, a3, a4, a5⟩ := id qa; obtain ⟨b0, b1, b2, b3, b4, b5⟩ := id qb) | (go_at_call 63; refine (hq _ _ _).mono ?_; rintro e wx ⟨rfl, hwx⟩; obtain rfl := hwx.symm; clear hwx))
            exact ⟨⟨t + 1, bb, rfl, by go_num, by omega, by omega, hN, kk⟩, by simp [intOf]; omega⟩
          · have hN : RB true (t + 1) := (HRB.out _ _).2 ⟨fun _ => ⟨t, ht1, by omega, hc, hc2⟩, fun _ => rfl⟩
            clear HB HP HC
            go_wp2_with (first | (go_at_call_of 62 (Value.agg #[.bool N2, .int .i64 (P2 : Int), .int .i64 (Q2 : Int)]); refine (hh2 _ _).mono ?_; rintro e wx ⟨rfl, gx⟩; replace kk := Kp.trans kk gx; replace qa := H3.keep qa gx; replace qb := H3.keep qb gx; clear gx; obtain ⟨a0, a1, a2, a3, a4, a5⟩ := id qa; obtain ⟨b0, b1, b2, b3, b4, b5⟩ := id qb) | (go_at_call 63; refine (hq _ _ _).mono ?_; rintro e wx ⟨rfl, hwx⟩; obtain rfl := hwx.symm; clear hwx))
            exact ⟨⟨t + 1, true, rfl, by go_num, by omega, by omega, hN, kk⟩, by simp [intOf]; omega⟩
        case neg =>
          have e9 : n = t := by omega
          subst e9
          cases bb
          · have hb : Hid (¬ (∀ p, 1 ≤ p → p < n → p % 2 = 0 → h1 p = true → ∃ t, 1 ≤ t ∧ t < n ∧ h2 t = true ∧ Q p t = true)) := fun h => by
              have h9 := HB.out.2 (h p hp1 cp HC.out.2 HC.out.1)
              cases h9
            clear HB HP HC
            have kf := Kp.trans k0 kr
            go_wp2
            exact bodyPost_ret (v := .bool false) (by simp [results, Try.results50, go_sem]) rfl ⟨false, rfl, ⟨(fun h => by cases h), fun h => absurd h hb.out⟩, kf⟩
          · have hN : Hid (∀ p', 1 ≤ p' → p' < p + 1 → p' % 2 = 0 → h1 p' = true → ∃ t, 1 ≤ t ∧ t < n ∧ h2 t = true ∧ Q p' t = true) := fun p' x1 x2 x3 x4 => by
              rcases (by omega : p' < p ∨ p' = p) with h | h
              · exact HP.out p' x1 h x3 x4
              · rw [h]; exact HB.out.1 rfl
            clear HB HP HC
            go_wp2
            exact ⟨⟨p + 1, by go_num, by omega, by omega, hN, kr⟩, by simp [intOf]; omega⟩
end Go.Proofs.Ythajkngngdnidaa
