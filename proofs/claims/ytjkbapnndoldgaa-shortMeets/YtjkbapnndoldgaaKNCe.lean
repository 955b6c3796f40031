import Derived.Test.YtjkbapnndoldgaaKNCb
namespace Go.Proofs.Ytjkbapnndoldgaa
open Go.RowKit
set_option maxRecDepth 20000 in
set_option maxHeartbeats 4000000 in
theorem eachEach_ (q : Int) (N1 N2 : Bool) (P1 Q1 P2 Q2 n : Nat) (hn : 1 ≤ n) (hn2 : n ≤ 1000) (h1 h2 : Nat → Bool) (Q : Nat → Nat → Bool) (hh1 : ∀ (p : Nat) (w : World), Calls Try.prog 106 #[.agg #[.bool N1, .int .i64 (P1 : Int), .int .i64 (Q1 : Int)], .int .i64 (p : Int)] w fun e w' => e = .returned (.bool (h1 p)) ∧ Kp w w') (hh2 : ∀ (p : Nat) (w : World), Calls Try.prog 106 #[.agg #[.bool N2, .int .i64 (P2 : Int), .int .i64 (Q2 : Int)], .int .i64 (p : Int)] w fun e w' => e = .returned (.bool (h2 p)) ∧ Kp w w') (hq : ∀ (a b : Nat) (w : World), Calls Try.prog 107 #[.int .i64 q, .int .i64 (a : Int), .int .i64 (b : Int)] w fun e w' => e = .returned (.bool (Q a b)) ∧ w' = w) (w : World) : Calls Try.prog 78 #[.int .i64 q, .agg #[.bool N1, .int .i64 (P1 : Int), .int .i64 (Q1 : Int)], .agg #[.bool N2, .int .i64 (P2 : Int), .int .i64 (Q2 : Int)], .int .i64 (n : Int)] w fun e w' => ∃ b, e = .returned (.bool b) ∧ (b = true ↔ ∀ p t, 1 ≤ p → p < n → 1 ≤ t → t < n → p % 2 = 0 → h1 p = true → h2 t = true → Q p t = true) ∧ Kp w w' := by
  have qa0 : H3 ((w.alloc (.cells #[.bool N1, .int .i64 (P1 : Int), .int .i64 (Q1 : Int)] 109)).alloc (.cells #[.bool N2, .int .i64 (P2 : Int), .int .i64 (Q2 : Int)] 109)) w.heap.size (.bool N1) (.int .i64 (P1 : Int)) (.int .i64 (Q1 : Int)) := H3.past (H3.new w _ _ _ 109) _ _
  have qb0 : H3 ((w.alloc (.cells #[.bool N1, .int .i64 (P1 : Int), .int .i64 (Q1 : Int)] 109)).alloc (.cells #[.bool N2, .int .i64 (P2 : Int), .int .i64 (Q2 : Int)] 109)) (w.heap.size + 1) (.bool N2) (.int .i64 (P2 : Int)) (.int .i64 (Q2 : Int)) := by
    have h := H3.new (w.alloc (.cells #[.bool N1, .int .i64 (P1 : Int), .int .i64 (Q1 : Int)] 109)) (.bool N2) (.int .i64 (P2 : Int)) (.int .i64 (Q2 : Int)) 109
    rw [World.size_alloc] at h
    exact h
  have k0 : Kp w ((w.alloc (.cells #[.bool N1, .int .i64 (P1 : Int), .int .i64 (Q1 : Int)] 109)).alloc (.cells #[.bool N2, .int .i64 (P2 : Int), .int .i64 (Q2 : Int)] 109)) := (((Kp.refl w).alloc _).alloc _)
  go_enter Try.func78, Try.ntmps78
  go_wp2
  generalize hW : (w.alloc (.cells #[.bool N1, .int .i64 (P1 : Int), .int .i64 (Q1 : Int)] 109)).alloc (.cells #[.bool N2, .int .i64 (P2 : Int), .int .i64 (Q2 : Int)] 109) = W at qa0 qb0 k0 ⊢
  clear hW
  go_loopw [9] (fun a wr => ∃ p : Nat, a = .int .i64 p ∧ 1 ≤ p ∧ p ≤ n ∧ Hid (∀ p' t, 1 ≤ p' → p' < p → 1 ≤ t → t < n → p' % 2 = 0 → h1 p' = true → h2 t = true → Q p' t = true) ∧ Kp W wr) (fun a _ => n - (intOf a).toNat)
  case atStart => exact ⟨1, rfl, by omega, by omega, fun p' t h1 h2 => by omega, Kp.refl _⟩
  case round =>
    obtain ⟨p, rfl, hp1, hp2, HP, kr⟩ := hrel
    by_cases cp : p < n
    case neg =>
      have hb : Hid (∀ p t, 1 ≤ p → p < n → 1 ≤ t → t < n → p % 2 = 0 → h1 p = true → h2 t = true → Q p t = true) := fun p' t x1 x2 => HP.out p' t x1 (by omega)
      clear HP
      have kf := Kp.trans k0 kr
      go_wp2
      exact bodyPost_ret (v := .bool true) (by simp [results, Try.results78, go_sem]) rfl ⟨true, rfl, ⟨fun _ => hb.out, fun _ => rfl⟩, kf⟩
    case pos =>
      have t0 : (p : Int).tmod 2 = ((p % 2 : Nat) : Int) := rfl
      have HT : Hid ((p : Int).tmod 2 = ((p % 2 : Nat) : Int)) := t0
      clear t0
      go_wp2
      obtain ⟨wo, hwo⟩ : ∃ wo, wo = wr := ⟨_, rfl⟩
      subst hwo
      have ko := kr
      clear kr
      obtain ⟨RB, hRB⟩ : ∃ RB : Nat → Prop, ∀ t, RB t ↔ (∀ t', 1 ≤ t' → t' < t → p % 2 = 0 → h1 p = true → h2 t' = true → Q p t' = true) := ⟨fun t => ∀ t', 1 ≤ t' → t' < t → p % 2 = 0 → h1 p = true → h2 t' = true → Q p t' = true, fun _ => Iff.rfl⟩
      have HRB : Hid (∀ t, RB t ↔ (∀ t', 1 ≤ t' → t' < t → p % 2 = 0 → h1 p = true → h2 t' = true → Q p t' = true)) := hRB
      clear hRB
      go_loopw [10] (fun i wq => ∃ t : Nat, i = .int .i64 t ∧ 1 ≤ t ∧ t ≤ n ∧ RB t ∧ Kp W wq) (fun i _ => n - (intOf i).toNat)
      case atStart => exact ⟨1, rfl, by omega, by omega, (HRB.out _).2 (fun t' h h' => by omega), ko⟩
      case round =>
        obtain ⟨t, rfl, ht1, ht2, HB0, kr⟩ := hrel
        have HB : Hid (∀ t', 1 ≤ t' → t' < t → p % 2 = 0 → h1 p = true → h2 t' = true → Q p t' = true) := (HRB.out _).1 HB0
        clear HB0
        by_cases ct : t < n
        case neg =>
          have e9 : n = t := by omega
          subst e9
          have hN : Hid (∀ p' t', 1 ≤ p' → p' < p + 1 → 1 ≤ t' → t' < n → p' % 2 = 0 → h1 p' = true → h2 t' = true → Q p' t' = true) := fun p' t' x1 x2 x3 x4 x5 x6 x7 => by
            rcases (by omega : p' < p ∨ p' = p) with h | h
            · exact HP.out p' t' x1 h x3 x4 x5 x6 x7
            · rw [h] at x5 x6 ⊢; exact HB.out t' x3 x4 x5 x6 x7
          clear HB HP
          go_wp2
          exact ⟨⟨p + 1, by go_num, by omega, by omega, hN, kr⟩, by simp [intOf]; omega⟩
        case pos =>
        have kk : Kp W wr := kr; have qa := H3.keep qa0 kk; have qb := H3.keep qb0 kk; obtain ⟨a0, a1, a2, a3, a4, a5⟩ := id qa; obtain ⟨b0, b1, b2, b3, b4, b5⟩ := id qb
        have t0 := HT.out
        rcases (by omega : p % 2 = 1 ∨ p % 2 = 0) with ce | ce
        · rw [ce] at t0
          have hN : RB (t + 1) := (HRB.out _).2 <| fun t' x1 x2 x3 x4 x5 => by
            rcases (by omega : t' < t ∨ t' = t) with h | h
            · exact HB.out t' x1 h x3 x4 x5
            · omega
          clear HB HP
          go_wp2_with (first | (go_at_call_of 106 (Value.agg #[.bool N1, .int .i64 (P1 : Int), .int .i64 (Q1 : Int)]); refine (hh1 _ _).mono ?_; rintro e wx ⟨rfl, gx⟩; replace kk := Kp.trans kk gx; replace qa := H3.keep qa gx; replace qb := H3.keep qb gx; clear gx; obtain ⟨a0, a1, a2, a3, a4, a5⟩ := id qa; obtain ⟨b0, b1, b2, b3, b4, b5⟩ := id qb) | (go_at_call_of 106 (Value.agg #[.bool N2, .int .i64 (P2 : Int), .int .i64 (Q2 : Int)]); refine (hh2 _ _).mono ?_; rintro e wx ⟨rfl, gx⟩; replace kk := Kp.trans kk gx; replace qa := H3.keep qa gx; replace qb := H3.keep qb gx; clear gx; obtain ⟨a0, a1, a2, a3, a4, a5⟩ := id qa; obtain ⟨b0, b1, b2, b3, b4, b5⟩ := id qb) | (go_at_call 107; refine (hq _ _ _).mono ?_; rintro e wx ⟨rfl, hwx⟩; obtain rfl := hwx.symm; clear hwx))
          exact ⟨⟨t + 1, by go_num, by omega, by omega, hN, kk⟩, by simp [intOf]; omega⟩
        rw [ce] at t0
        rcases hc : h1 p with _ | _
        · have hN : RB (t + 1) := (HRB.out _).2 <| fun t' x1 x2 x3 x4 x5 => by
            rcases (by omega : t' < t ∨ t' = t) with h | h
            · exact HB.out t' x1 h x3 x4 x5
            · rw [hc] at x4; cases x4
          clear HB HP
          go_wp2_with (first | (go_at_call_of 106 (Value.agg #[.bool N1, .int .i64 (P1 : Int), .int .i64 (Q1 : Int)]); refine (hh1 _ _).mono ?_; rintro e wx ⟨rfl, gx⟩; replace kk := Kp.trans kk gx; replace qa := H3.keep qa gx; replace qb := H3.keep qb gx; clear gx; obtain ⟨a0, a1, a2, a3, a4, a5⟩ := id qa; obtain ⟨b0, b1, b2, b3, b4, b5⟩ := id qb) | (go_at_call_of 106 (Value.agg #[.bool N2, .int .i64 (P2 : Int), .int .i64 (Q2 : Int)]); refine (hh2 _ _).mono ?_; rintro e wx ⟨rfl, gx⟩; replace kk := Kp.trans kk gx; replace qa := H3.keep qa gx; replace qb := H3.keep qb gx; clear gx; obtain ⟨a0, a1, a2, a3, a4, a5⟩ := id qa; obtain ⟨b0, b1, b2, b3, b4, b5⟩ := id qb) | (go_at_call 107; refine (hq _ _ _).mono ?_; rintro e wx ⟨rfl, hwx⟩; obtain rfl := hwx.symm; clear hwx))
          exact ⟨⟨t + 1, by go_num, by omega, by omega, hN, kk⟩, by simp [intOf]; omega⟩
        rcases hc2 : h2 t with _ | _
        · have hN : RB (t + 1) := (HRB.out _).2 <| fun t' x1 x2 x3 x4 x5 => by
            rcases (by omega : t' < t ∨ t' = t) with h | h
            · exact HB.out t' x1 h x3 x4 x5
            · rw [h, hc2] at x5; cases x5
          clear HB HP
          go_wp2_with (first | (go_at_call_of 106 (Value.agg #[.bool N1, .int .i64 (P1 : Int), .int .i64 (Q1 : Int)]); refine (hh1 _ _).mono ?_; rintro e wx ⟨rfl, gx⟩; replace kk := Kp.trans kk gx; replace qa := H3.keep qa gx; replace qb := H3.keep qb gx; clear gx; obtain ⟨a0, a1, a2, a3, a4, a5⟩ := id qa; obtain ⟨b0, b1, b2, b3, b4, b5⟩ := id qb) | (go_at_call_of 106 (Value.agg #[.bool N2, .int .i64 (P2 : Int), .int .i64 (Q2 : Int)]); refine (hh2 _ _).mono ?_; rintro e wx ⟨rfl, gx⟩; replace kk := Kp.trans kk gx; replace qa := H3.keep qa gx; replace qb := H3.keep qb gx; clear gx; obtain ⟨a0, a1, a2, a3, a4, a5⟩ := id qa; obtain ⟨b0, b1, b2, b3, b4, b5⟩ := id qb) | (go_at_call 107; refine (hq _ _ _).mono ?_; rintro e wx ⟨rfl, hwx⟩; obtain rfl := hwx.symm; clear hwx))
          exact ⟨⟨t + 1, by go_num, by omega, by omega, hN, kk⟩, by simp [intOf]; omega⟩
        rcases hc3 : Q p t with _ | _
        · have hb : Hid (¬ (∀ p t, 1 ≤ p → p < n → 1 ≤ t → t < n → p % 2 = 0 → h1 p = true → h2 t = true → Q p t = true)) := fun h => by
            have h9 := h p t hp1 cp ht1 ct ce hc hc2
            rw [hc3] at h9
            cases h9
          clear HB HP ce
          go_wp2_with (first | (go_at_call_of 106 (Value.agg #[.bool N1, .int .i64 (P1 : Int), .int .i64 (Q1 : Int)]); refine (hh1 _ _).mono ?_; rintro e wx ⟨rfl, gx⟩; replace kk := Kp.trans kk gx; replace qa := H3.keep qa gx; replace qb := H3.keep qb gx; clear gx; obtain ⟨a0, a1, a2, a3, a4, a5⟩ := id qa; obtain ⟨b0, b1, b2, b3, b4, b5⟩ := id qb) | (go_at_call_of 106 (Value.agg #[.bool N2, .int .i64 (P2 : Int), .int .i64 (Q2 : Int)]); refine (hh2 _ _).mono ?_; rintro e wx ⟨rfl, gx⟩; replace kk := Kp.trans kk gx; replace qa := H3.keep qa gx; replace qb := H3.keep qb gx; clear gx; obtain ⟨a0, a1, a2, a3, a4, a5⟩ := id qa; obtain ⟨b0, b1, b2, b3, b4, b5⟩ := id qb) | (go_at_call 107; refine (hq _ _ _).mono ?_; rintro e wx ⟨rfl, hwx⟩; obtain rfl := hwx.symm; clear hwx))
          exact bodyPost_ret (v := .bool false) (by simp [results, Try.results78, go_sem]) rfl ⟨false, rfl, ⟨(fun h => by cases h), fun h => absurd h hb.out⟩, Kp.trans k0 kk⟩
        · have hN : RB (t + 1) := (HRB.out _).2 <| fun t' x1 x2 x3 x4 x5 => by
            rcases (by omega : t' < t ∨ t' = t) with h | h
            · exact HB.out t' x1 h x3 x4 x5
            · rw [h]; exact hc3
          clear HB HP
          go_wp2_with (first | (go_at_call_of 106 (Value.agg #[.bool N1, .int .i64 (P1 : Int), .int .i64 (Q1 : Int)]); refine (hh1 _ _).mono ?_; rintro e wx ⟨rfl, gx⟩; replace kk := Kp.trans kk gx; replace qa := H3.keep qa gx; replace qb := H3.keep qb gx; clear gx; obtain ⟨a0, a1, a2, a3, a4, a5⟩ := id qa; obtain ⟨b0, b1, b2, b3, b4, b5⟩ := id qb) | (go_at_call_of 106 (Value.agg #[.bool N2, .int .i64 (P2 : Int), .int .i64 (Q2 : Int)]); refine (hh2 _ _).mono ?_; rintro e wx ⟨rfl, gx⟩; replace kk := Kp.trans kk gx; replace qa := H3.keep qa gx; replace qb := H3.keep qb gx; clear gx; obtain ⟨a0, a1, a2, a3, a4, a5⟩ := id qa; obtain ⟨b0, b1, b2, b3, b4, b5⟩ := id qb) | (go_at_call 107; refine (hq _ _ _).mono ?_; rintro e wx ⟨rfl, hwx⟩; obtain rfl := hwx.symm; clear hwx))
          exact ⟨⟨t + 1, by go_num, by omega, by omega, hN, kk⟩, by simp [intOf]; omega⟩
end Go.Proofs.Ytjkbapnndoldgaa
