import Derived.Test.YtolghomhigemgaaProg
import Derived.Test.YtolghomhigemgaaKXA0
import Derived.Test.YtolghomhigemgaaKXQF
import Derived.Test.YtolghomhigemgaaKQA
import Derived.Test.YtolghomhigemgaaKXQU
import Derived.Test.YtolghomhigemgaaKXEA
import Derived.Test.YtolghomhigemgaaKXNR
import Derived.Test.YtolghomhigemgaaKXM
import Derived.Test.YtolghomhigemgaaKXY
import Derived.Test.YtolghomhigemgaaKXEE
import Derived.Test.YtolghomhigemgaaKMR7Q
import Derived.Test.YtolghomhigemgaaKXMR
import Derived.Test.YtolghomhigemgaaKXM3
import Derived.Test.YtolghomhigemgaaKXO
import Derived.Test.YtolghomhigemgaaKXO3
import Derived.Test.YtolghomhigemgaaKXT
import Derived.Test.YtolghomhigemgaaKXLB
import Derived.Test.YtolghomhigemgaaKRX
import Derived.Test.YtolghomhigemgaaKXRL
import Derived.Test.YtolghomhigemgaaKXCO
import Derived.Test.YtolghomhigemgaaKLN
import Derived.Test.YtolghomhigemgaaKXRN
import Derived.Test.YtolghomhigemgaaKW4
import Derived.Test.YtolghomhigemgaaKBY
import Derived.Test.YtolghomhigemgaaKBW
import Derived.Test.YtolghomhigemgaaKXTZ
import Derived.Test.YtolghomhigemgaaKXG1
import Derived.Test.YtolghomhigemgaaKNSm
import Derived.Test.YtolghomhigemgaaKXH2Q
import Derived.Test.YtolghomhigemgaaKXG4
import Derived.Test.YtolghomhigemgaaKEKF
import Derived.Test.YtolghomhigemgaaKXET
import Derived.Test.YtolghomhigemgaaKXEG
import Derived.Test.YtolghomhigemgaaKXEC
import Derived.Test.YtolghomhigemgaaKXWR
import Derived.Test.YtolghomhigemgaaKXWS
import Derived.Test.YtolghomhigemgaaKXME
import Derived.WalkKit
import Derived.ProofKit
import Derived.RowKit3
import Derived.WalkSpells
import Derived.StillTactics
import Derived.Deep.QuietTactic
import Derived.BigQuiet
import Derived.Below
import Derived.Deep.OwnRows
import Derived.OwnWalk
import Derived.Laws.BitsAllLaws
import Derived.Laws.Slices
import Derived.Laws.Bits64b
import Derived.Laws.FloatArith
import Derived.Deep.RegionHeld3
import Derived.Deep.CutRange
import Derived.Deep.DeepCutAuto
namespace Go.Proofs.Ytolghomhigemgaa
open Go.RowKit
set_option linter.unusedVariables false
set_option linter.unusedSimpArgs false
set_option maxRecDepth 20000 in
set_option maxHeartbeats 4000000 in
theorem reachZ_ (X1 X2 P1 P2 : Int) (A1 A2 LO HI : Nat) (s3 : Bool) (p3 : Option Addr) (l3 c3 : Nat) (q3 : Option Addr) (k3 d3 : Nat) (RWp : World → Prop) (hkr : ∀ W W' : World, Kp W W' → RWp W → RWp W') (FH B1 B2 B3 B4 : Bool) (LN HN : Nat) (PL PLn : World → Bool → Option Addr → Nat → Nat → Option Addr → Nat → Nat → Prop) (PH PHn : World → Bool → Option Addr → Nat → Nat → Option Addr → Nat → Nat → Prop) (hm3 : ∀ w : World, Calls Try.prog 4 #[.agg #[.float .f64 13837309855095848960, .float .f64 4611686018427387904]] w fun e w' => e = .returned (.float .f64 4613937818241073152) ∧ Kp w w') (hr : ∀ w : World, Calls Try.prog 5 #[.agg #[.int .u64 X1, .int .u64 X2]] w fun e w' => e = .returned (.agg #[.int .u64 P1, .int .u64 P2]) ∧ Kp w w') (hin : ∀ w : World, Calls Try.prog 8 #[.agg #[.int .u64 X1, .int .u64 X2]] w fun e w' => e = .returned (.agg #[.float .f64 A1, .float .f64 A2]) ∧ Kp w w') (hlo : ∀ w : World, Calls Try.prog 7 #[.agg #[.float .f64 A1, .float .f64 A2]] w fun e w' => e = .returned (.float .f64 LO) ∧ Kp w w') (hhi : ∀ w : World, Calls Try.prog 4 #[.agg #[.float .f64 A1, .float .f64 A2]] w fun e w' => e = .returned (.float .f64 HI) ∧ Kp w w') (hfl : ∀ w : World, Calls Try.prog 9 #[.float .f64 LO] w fun e w' => e = .returned (.bool true) ∧ Kp w w') (hfh : ∀ w : World, Calls Try.prog 9 #[.float .f64 HI] w fun e w' => e = .returned (.bool FH) ∧ Kp w w') (tl : (FloatKind.f64.format.order LO 0 == some Ordering.lt) = false) (th : (FloatKind.f64.format.order HI HI == some Ordering.eq) = true) (tw : (FloatKind.f64.format.order HI LO == some Ordering.lt) = false) (ng1 : ∀ w : World, (Op.unary .neg (.float .f64 LO)).run Try.prog w = .ok (.float .f64 LN) w) (ng2 : ∀ w : World, (Op.unary .neg (.float .f64 HI)).run Try.prog w = .ok (.float .f64 HN) w) (d1 : LO ≠ LN) (d2 : HI ≠ HN) (hn1 : ∀ W : World, Calls Try.prog 11 #[.float .f64 LO] W fun e w' => ∃ (s : Bool) (p : Option Addr) (l c : Nat) (q : Option Addr) (k d : Nat), e = .returned (.agg #[.bool s, .slice p l c, .slice q k d]) ∧ PL w' s p l c q k d ∧ Kp W w') (hh1 : ∀ (W : World) (s : Bool) (p : Option Addr) (l c : Nat) (q : Option Addr) (k d : Nat), PL W s p l c q k d → Calls Try.prog 10 #[.agg #[.int .u64 P1, .int .u64 P2], .agg #[.bool s, .slice p l c, .slice q k d]] W fun e w' => e = .returned (.bool B1) ∧ Kp W w') (hn2 : ∀ W : World, Calls Try.prog 11 #[.float .f64 LN] W fun e w' => ∃ (s : Bool) (p : Option Addr) (l c : Nat) (q : Option Addr) (k d : Nat), e = .returned (.agg #[.bool s, .slice p l c, .slice q k d]) ∧ PLn w' s p l c q k d ∧ Kp W w') (hh2 : ∀ (W : World) (s : Bool) (p : Option Addr) (l c : Nat) (q : Option Addr) (k d : Nat), PLn W s p l c q k d → Calls Try.prog 10 #[.agg #[.int .u64 P1, .int .u64 P2], .agg #[.bool s, .slice p l c, .slice q k d]] W fun e w' => e = .returned (.bool B2) ∧ Kp W w') (hn3 : FH = true → ∀ W : World, Calls Try.prog 11 #[.float .f64 HI] W fun e w' => ∃ (s : Bool) (p : Option Addr) (l c : Nat) (q : Option Addr) (k d : Nat), e = .returned (.agg #[.bool s, .slice p l c, .slice q k d]) ∧ PH w' s p l c q k d ∧ Kp W w') (hh3 : FH = true → ∀ (W : World) (s : Bool) (p : Option Addr) (l c : Nat) (q : Option Addr) (k d : Nat), PH W s p l c q k d → Calls Try.prog 10 #[.agg #[.int .u64 P1, .int .u64 P2], .agg #[.bool s, .slice p l c, .slice q k d]] W fun e w' => e = .returned (.bool B3) ∧ Kp W w') (hn4 : FH = true → ∀ W : World, Calls Try.prog 11 #[.float .f64 HN] W fun e w' => ∃ (s : Bool) (p : Option Addr) (l c : Nat) (q : Option Addr) (k d : Nat), e = .returned (.agg #[.bool s, .slice p l c, .slice q k d]) ∧ PHn w' s p l c q k d ∧ Kp W w') (hh4 : FH = true → ∀ (W : World) (s : Bool) (p : Option Addr) (l c : Nat) (q : Option Addr) (k d : Nat), PHn W s p l c q k d → Calls Try.prog 10 #[.agg #[.int .u64 P1, .int .u64 P2], .agg #[.bool s, .slice p l c, .slice q k d]] W fun e w' => e = .returned (.bool B4) ∧ Kp W w') (hB : (B1 || B2) = true ∧ (FH = false ∨ (FH = true ∧ B3 = true) ∨ (FH = true ∧ B3 = false ∧ B4 = true))) (te : (P1 == 9218868437227405312) = false) (ND : Nat) (hno : ∀ W : World, RWp W → Calls Try.prog 12 #[.slice q3 k3 d3] W fun e w' => ∃ (pn : Option Addr) (cn : Nat), e = .returned (.slice pn ND cn) ∧ Kp W w') (tz : (ND : Int) = 0) (w : World) (hz0 : RWp w) : Calls Try.prog 3 #[.agg #[.int .u64 X1, .int .u64 X2], .agg #[.bool s3, .slice p3 l3 c3, .slice q3 k3 d3]] w fun e w' => e = .returned (.bool true) ∧ Kp w w' := by
  have HB : Hid ((B1 || B2) = true ∧ (FH = false ∨ (FH = true ∧ B3 = true) ∨ (FH = true ∧ B3 = false ∧ B4 = true))) := hB
  clear hB
  have th2 : FloatKind.f64.format.order HI HI = some Ordering.eq := by simpa using th
  have tl2 : ¬ (FloatKind.f64.format.order LO 0 = some Ordering.lt) := by simpa using tl
  have tw2 : ¬ (FloatKind.f64.format.order HI LO = some Ordering.lt) := by simpa using tw
  have t3 : (FloatKind.f64.format.order 4613937818241073152 4613937818241073152 == some Ordering.eq) = true := by decide +kernel
  go_enter Try.func3, Try.ntmps3
  go_upto_region 4 with (first | (go_at_call 4; refine (hm3 _).mono ?_; rintro e W ⟨rfl, g1⟩; have kW : Kp w W := Kp.trans (((Kp.refl w).alloc _).alloc _) g1; have sx := Fq.H2.keep (Fq.H2.new w (.int .u64 X1) (.int .u64 X2) 24) (Kp.trans ((Kp.refl _).alloc (.cells #[.bool s3, .slice p3 l3 c3, .slice q3 k3 d3] 27)) g1); have sv := H3c.keep (H3c.two w #[.int .u64 X1, .int .u64 X2] (.bool s3) (.slice p3 l3 c3) (.slice q3 k3 d3) 24 27) g1; have hz := hkr _ _ kW hz0; obtain ⟨x0, x1, x2, x3⟩ := id sx; obtain ⟨v0, v1, v2, v3, v4, v5⟩ := id sv) | (go_at_call 5; refine (hr _).mono ?_; rintro e wa ⟨rfl, ga⟩; have ga2 := Kp.trans ga ((Kp.refl _).alloc (.cells #[.int .u64 P1, .int .u64 P2] 24)); replace sx := Fq.H2.keep sx ga2; replace sv := H3c.keep sv ga2; replace hz := hkr _ _ ga2 hz; replace kW := Kp.trans kW ga2; have sy := Fq.H2.new wa (.int .u64 P1) (.int .u64 P2) 24; clear x0 x1 x2 x3 v0 v1 v2 v3 v4 v5; obtain ⟨x0, x1, x2, x3⟩ := id sx; obtain ⟨v0, v1, v2, v3, v4, v5⟩ := id sv))
  generalize wa.alloc (.cells #[.int .u64 P1, .int .u64 P2] 24) = W at sx sv sy hz kW x0 x1 x2 x3 v0 v1 v2 v3 v4 v5 ⊢
  generalize wa.heap.size = gy at sy ⊢
  generalize w.heap.size + 1 = bv at sv v0 v1 v2 v3 v4 v5 ⊢
  generalize w.heap.size = bx at sx x0 x1 x2 x3 ⊢
  clear t3
  refine Fq.wp_region_grow (by kernel_rfl) (by kernel_rfl) (fun ι _ G hG hall => ?_)
  have cc0 : ∀ n, (G n).cell? ⟨gy, 0, none⟩ = some (.int .u64 P1) := fun n => Fq.gkeep (hG n) sy.1
  have cc1 : ∀ n, (G n).cell? ⟨gy, 1, none⟩ = some (.int .u64 P2) := fun n => Fq.gkeep (hG n) sy.2.1
  repeat (go_big_quiet_step (first | (go_at_call 6; exact (rempty9_ _).mono (fun e w' h => ⟨h.1, hall _ (Fq.gtrans (hG _) h.2)⟩))))
  refine wpQuiet_nil ?_
  rintro _ ⟨nq, rfl⟩
  have gq : Kp W (G nq) := hG nq
  clear cc0 cc1 hall hG
  replace sx := Fq.H2.keep sx gq
  replace sv := H3c.keep sv gq
  replace sy := Fq.H2.keep sy gq
  replace hz := hkr _ _ gq hz
  replace kW := Kp.trans kW gq
  clear gq x0 x1 x2 x3 v0 v1 v2 v3 v4 v5
  generalize G nq = W at sx sv sy hz kW ⊢
  obtain ⟨x0, x1, x2, x3⟩ := id sx; obtain ⟨v0, v1, v2, v3, v4, v5⟩ := id sv
  go_upto_region 8 with (first | (go_at_call 8; refine (hin _).mono ?_; rintro e wn ⟨rfl, gn⟩; replace sx := Fq.H2.keep sx gn; replace sv := H3c.keep sv gn; replace sy := Fq.H2.keep sy gn; replace hz := hkr _ _ gn hz; replace kW := Kp.trans kW gn; clear gn x0 x1 x2 x3 v0 v1 v2 v3 v4 v5; obtain ⟨x0, x1, x2, x3⟩ := id sx; obtain ⟨v0, v1, v2, v3, v4, v5⟩ := id sv) | (go_at_call 7; refine (hlo _).mono ?_; rintro e wn ⟨rfl, gn⟩; replace sx := Fq.H2.keep sx gn; replace sv := H3c.keep sv gn; replace sy := Fq.H2.keep sy gn; replace hz := hkr _ _ gn hz; replace kW := Kp.trans kW gn; clear gn x0 x1 x2 x3 v0 v1 v2 v3 v4 v5; obtain ⟨x0, x1, x2, x3⟩ := id sx; obtain ⟨v0, v1, v2, v3, v4, v5⟩ := id sv) | (go_at_call 4; refine (hhi _).mono ?_; rintro e wn ⟨rfl, gn⟩; replace sx := Fq.H2.keep sx gn; replace sv := H3c.keep sv gn; replace sy := Fq.H2.keep sy gn; replace hz := hkr _ _ gn hz; replace kW := Kp.trans kW gn; clear gn x0 x1 x2 x3 v0 v1 v2 v3 v4 v5; obtain ⟨x0, x1, x2, x3⟩ := id sx; obtain ⟨v0, v1, v2, v3, v4, v5⟩ := id sv))
  go_upto_region 10 with (first | (go_at_call 9; refine (hfl _).mono ?_; rintro e wn ⟨rfl, gn⟩; replace sx := Fq.H2.keep sx gn; replace sv := H3c.keep sv gn; replace sy := Fq.H2.keep sy gn; replace hz := hkr _ _ gn hz; replace kW := Kp.trans kW gn; clear gn x0 x1 x2 x3 v0 v1 v2 v3 v4 v5; obtain ⟨x0, x1, x2, x3⟩ := id sx; obtain ⟨v0, v1, v2, v3, v4, v5⟩ := id sv))
  clear x0 x1 x2 x3 v0 v1 v2 v3 v4 v5 tl th tw tl2 th2 tw2 hfl
  generalize wn = W at sx sv sy hz kW ⊢
  go_cut [52] (fun s52 wx => s52 = .bool false ∧ Kp W wx)
  case first =>
    have b12 := HB.out.1
    clear HB
    have y0 : W.cell? ⟨gy, 0, none⟩ = some (.int .u64 P1) := sy.1
    have y1 : W.cell? ⟨gy, 1, none⟩ = some (.int .u64 P2) := sy.2.1
    have yd0 : W.drew.cell? ⟨gy, 0, none⟩ = some (.int .u64 P1) := sy.1
    have yd1 : W.drew.cell? ⟨gy, 1, none⟩ = some (.int .u64 P2) := sy.2.1
    cases B1
    · cases B2
      · cases b12
      clear b12
      first | go_region_held3 (fun w' => w'.cell? ⟨gy, 0, none⟩ = some (.int .u64 P1) ∧ w'.cell? ⟨gy, 1, none⟩ = some (.int .u64 P2)) (first | (with_reducible exact ⟨y0, y1⟩) | (with_reducible exact ⟨yd0, yd1⟩) | (with_reducible exact ⟨cz0, cz1⟩) | (with_reducible exact ⟨ca0, ca1⟩) | (with_reducible exact ⟨cb0, cb1⟩) | (with_reducible exact ⟨cc0, cc1⟩) | (with_reducible exact ⟨ce0, ce1⟩)) (first | (go_at_call_of 11 (Value.float .f64 LO); refine (hn1 _).mono ?_; rintro e w3 ⟨s, p, l, c, q, k, d, rfl, hp, g3⟩; have K0 : Kp W w3 := Kp.trans (Kp.drew (Kp.refl _)) g3; have ca0 := kkeep K0 y0; have ca1 := kkeep K0 y1) | (go_at_call_of 10 (Value.slice p l c); refine (hh1 _ s p l c q k d hp).mono ?_; rintro e w4 ⟨rfl, g4⟩; have K1 : Kp W w4 := Kp.trans K0 g4; have cb0 := kkeep K1 y0; have cb1 := kkeep K1 y1) | (go_at_call_of 11 (Value.float .f64 LN); refine (hn2 _).mono ?_; rintro e w5 ⟨s2, p2, l2, c2, q2, k2, d2, rfl, hp2, g5⟩; have K2 : Kp W w5 := Kp.trans K1 g5; have cc0 := kkeep K2 y0; have cc1 := kkeep K2 y1) | (go_at_call_of 10 (Value.slice p2 l2 c2); refine (hh2 _ s2 p2 l2 c2 q2 k2 d2 hp2).mono ?_; rintro e w6 ⟨rfl, g6⟩; have K3 : Kp W w6 := Kp.trans K2 g6; have ce0 := kkeep K3 y0; have ce1 := kkeep K3 y1)) | fail
      all_goals go_wp2_with fail
      all_goals (
        go_meet
        exact ⟨rfl, K3⟩)
    · clear b12
      refine wp_region_held_drew (S := (fun w' => w'.cell? ⟨gy, 0, none⟩ = some (.int .u64 P1) ∧ w'.cell? ⟨gy, 1, none⟩ = some (.int .u64 P2))) (by kernel_rfl) ?_ (fun hHeld => ?_)
      · exact ⟨yd0, yd1⟩
      refine wpAnyH_take (i := 0) (v := .agg #[.int .u64 P1, .int .u64 P2]) rfl (by kernel_rfl) (by kernel_rfl) (by kernel_rfl) (fun _ _ _ h => h) (Or.inl ⟨by rfl, ?_⟩) (by assumption) ?_
      · intro w hSw
        (try dsimp only at hSw)
        first | (go_simp; done) | (go_simp; simp [*]; done) | skip
      try simp only [Act.put, List.getElem_toArray, List.getElem_cons_zero, List.getElem_cons_succ, List.setIfInBounds_toArray, List.set_cons_zero, List.set_cons_succ]
      refine wpAnyH_take (i := 1) (v := .float .f64 LO) rfl (by kernel_rfl) (by kernel_rfl) (by kernel_rfl) (fun _ _ _ h => h) (Or.inl ⟨by rfl, ?_⟩) (by assumption) ?_
      · intro w hSw
        (try dsimp only at hSw)
        first | (go_simp; done) | (go_simp; simp [*]; done) | skip
      try simp only [Act.put, List.getElem_toArray, List.getElem_cons_zero, List.getElem_cons_succ, List.setIfInBounds_toArray, List.set_cons_zero, List.set_cons_succ]
      refine wpAnyH_ready (rs := [2]) (by kernel_rfl) (by simp) ?_
      refine AllReadyH.cons rfl (fun K hK => ?_) AllReadyH.nil
      go_simp
      go_at_call_of 11 (Value.float .f64 LO); refine (hn1 _).mono ?_; rintro e w3 ⟨s, p, l, c, q, k, d, rfl, hp, g3⟩; have K0 : Kp W w3 := Kp.trans (Kp.drew (Kp.refl _)) g3; have ca0 := kkeep K0 y0; have ca1 := kkeep K0 y1
      go_wp2_with fail
      refine hK.out _ _ ?_ (fun hHeld => ?_)
      · exact ⟨ca0, ca1⟩
      clear hK K
      try simp only [Act.put, List.getElem_toArray, List.getElem_cons_zero, List.getElem_cons_succ, List.setIfInBounds_toArray, List.set_cons_zero, List.set_cons_succ]
      refine wpAnyH_ready (rs := [3]) (by kernel_rfl) (by simp) ?_
      refine AllReadyH.cons rfl (fun K hK => ?_) AllReadyH.nil
      go_simp
      go_at_call_of 10 (Value.slice p l c); refine (hh1 _ s p l c q k d hp).mono ?_; rintro e w4 ⟨rfl, g4⟩; have K1 : Kp W w4 := Kp.trans K0 g4; have cb0 := kkeep K1 y0; have cb1 := kkeep K1 y1
      go_wp2_with fail
      refine hK.out _ _ ?_ (fun hHeld => ?_)
      · exact ⟨cb0, cb1⟩
      clear hK K
      try simp only [Act.put, List.getElem_toArray, List.getElem_cons_zero, List.getElem_cons_succ, List.setIfInBounds_toArray, List.set_cons_zero, List.set_cons_succ]
      refine wpAnyH_take (i := 4) (v := .bool false) rfl (by kernel_rfl) (by kernel_rfl) (by kernel_rfl) (fun _ _ _ h => h) (Or.inl ⟨by rfl, ?_⟩) (by assumption) ?_
      · intro w hSw
        (try dsimp only at hSw)
        first | (go_simp; done) | (go_simp; simp [*]; done) | skip
      try simp only [Act.put, List.getElem_toArray, List.getElem_cons_zero, List.getElem_cons_succ, List.setIfInBounds_toArray, List.set_cons_zero, List.set_cons_succ]
      refine wpAnyH_take (i := 5) (v := .bool false) rfl (by kernel_rfl) (by kernel_rfl) (by kernel_rfl) (fun _ _ _ h => h) (Or.inl ⟨by rfl, ?_⟩) (by assumption) ?_
      · intro w hSw
        (try dsimp only at hSw)
        first | (go_simp; done) | (go_simp; simp [*]; done) | skip
      try simp only [Act.put, List.getElem_toArray, List.getElem_cons_zero, List.getElem_cons_succ, List.setIfInBounds_toArray, List.set_cons_zero, List.set_cons_succ]
      refine wpAnyH_take (i := 6) (v := undef) rfl (by kernel_rfl) (by kernel_rfl) (by kernel_rfl) (fun _ _ _ h => h) (Or.inr ⟨by rfl, rfl⟩) (by assumption) ?_
      try simp only [Act.put, List.getElem_toArray, List.getElem_cons_zero, List.getElem_cons_succ, List.setIfInBounds_toArray, List.set_cons_zero, List.set_cons_succ]
      refine wpAnyH_take (i := 7) (v := undef) rfl (by kernel_rfl) (by kernel_rfl) (by kernel_rfl) (fun _ _ _ h => h) (Or.inr ⟨by rfl, rfl⟩) (by assumption) ?_
      try simp only [Act.put, List.getElem_toArray, List.getElem_cons_zero, List.getElem_cons_succ, List.setIfInBounds_toArray, List.set_cons_zero, List.set_cons_succ]
      refine wpAnyH_take (i := 8) (v := undef) rfl (by kernel_rfl) (by kernel_rfl) (by kernel_rfl) (fun _ _ _ h => h) (Or.inr ⟨by rfl, rfl⟩) (by assumption) ?_
      try simp only [Act.put, List.getElem_toArray, List.getElem_cons_zero, List.getElem_cons_succ, List.setIfInBounds_toArray, List.set_cons_zero, List.set_cons_succ]
      refine wpAnyH_take (i := 9) (v := undef) rfl (by kernel_rfl) (by kernel_rfl) (by kernel_rfl) (fun _ _ _ h => h) (Or.inr ⟨by rfl, rfl⟩) (by assumption) ?_
      try simp only [Act.put, List.getElem_toArray, List.getElem_cons_zero, List.getElem_cons_succ, List.setIfInBounds_toArray, List.set_cons_zero, List.set_cons_succ]
      refine wpAnyH_take (i := 10) (v := undef) rfl (by kernel_rfl) (by kernel_rfl) (by kernel_rfl) (fun _ _ _ h => h) (Or.inr ⟨by rfl, rfl⟩) (by assumption) ?_
      try simp only [Act.put, List.getElem_toArray, List.getElem_cons_zero, List.getElem_cons_succ, List.setIfInBounds_toArray, List.set_cons_zero, List.set_cons_succ]
      refine wpAnyH_take (i := 11) (v := undef) rfl (by kernel_rfl) (by kernel_rfl) (by kernel_rfl) (fun _ _ _ h => h) (Or.inr ⟨by rfl, rfl⟩) (by assumption) ?_
      try simp only [Act.put, List.getElem_toArray, List.getElem_cons_zero, List.getElem_cons_succ, List.setIfInBounds_toArray, List.set_cons_zero, List.set_cons_succ]
      refine wpAnyH_take (i := 12) (v := .bool false) rfl (by kernel_rfl) (by kernel_rfl) (by kernel_rfl) (fun _ _ _ h => h) (Or.inl ⟨by rfl, ?_⟩) (by assumption) ?_
      · intro w hSw
        (try dsimp only at hSw)
        first | (go_simp; done) | (go_simp; simp [*]; done) | skip
      try simp only [Act.put, List.getElem_toArray, List.getElem_cons_zero, List.getElem_cons_succ, List.setIfInBounds_toArray, List.set_cons_zero, List.set_cons_succ]
      refine wpAnyH_done (by kernel_rfl) ?_ _
      all_goals go_wp2_with fail
      all_goals (
        go_meet
        exact ⟨rfl, K1⟩)
  case rest =>
  obtain ⟨rfl, gc⟩ := hcut
  replace sx := Fq.H2.keep sx gc
  replace sv := H3c.keep sv gc
  replace sy := Fq.H2.keep sy gc
  replace hz := hkr _ _ gc hz
  replace kW := Kp.trans kW gc
  clear gc
  generalize wc = W at sx sv sy hz kW ⊢
  go_upto_region 12 with fail
  go_cut [69] (fun s69 wx => s69 = .bool false ∧ Kp W wx)
  case first =>
    have b34 := HB.out.2
    clear HB
    have y0 : W.cell? ⟨gy, 0, none⟩ = some (.int .u64 P1) := sy.1
    have y1 : W.cell? ⟨gy, 1, none⟩ = some (.int .u64 P2) := sy.2.1
    have yd0 : W.drew.cell? ⟨gy, 0, none⟩ = some (.int .u64 P1) := sy.1
    have yd1 : W.drew.cell? ⟨gy, 1, none⟩ = some (.int .u64 P2) := sy.2.1
    rcases b34 with rfl | ⟨rfl, rfl⟩ | ⟨rfl, rfl, rfl⟩
    · skip
      refine wp_region_held_drew (S := (fun w' => w'.cell? ⟨gy, 0, none⟩ = some (.int .u64 P1) ∧ w'.cell? ⟨gy, 1, none⟩ = some (.int .u64 P2))) (by kernel_rfl) ?_ (fun hHeld => ?_)
      · exact ⟨yd0, yd1⟩
      refine wpAnyH_take (i := 0) (v := .float .f64 HI) rfl (by kernel_rfl) (by kernel_rfl) (by kernel_rfl) (fun _ _ _ h => h) (Or.inl ⟨by rfl, ?_⟩) (by assumption) ?_
      · intro w hSw
        (try dsimp only at hSw)
        first | (go_simp; done) | (go_simp; simp [*]; done) | skip
      try simp only [Act.put, List.getElem_toArray, List.getElem_cons_zero, List.getElem_cons_succ, List.setIfInBounds_toArray, List.set_cons_zero, List.set_cons_succ]
      refine wpAnyH_ready (rs := [1]) (by kernel_rfl) (by simp) ?_
      refine AllReadyH.cons rfl (fun K hK => ?_) AllReadyH.nil
      go_simp
      go_at_call 9; refine (hfh _).mono ?_; rintro e wz ⟨rfl, gz⟩; have KZ : Kp W wz := Kp.trans (Kp.drew (Kp.refl _)) gz; have cz0 := kkeep KZ y0; have cz1 := kkeep KZ y1
      go_wp2_with fail
      refine hK.out _ _ ?_ (fun hHeld => ?_)
      · exact ⟨cz0, cz1⟩
      clear hK K
      try simp only [Act.put, List.getElem_toArray, List.getElem_cons_zero, List.getElem_cons_succ, List.setIfInBounds_toArray, List.set_cons_zero, List.set_cons_succ]
      refine wpAnyH_take (i := 2) (v := .bool false) rfl (by kernel_rfl) (by kernel_rfl) (by kernel_rfl) (fun _ _ _ h => h) (Or.inl ⟨by rfl, ?_⟩) (by assumption) ?_
      · intro w hSw
        (try dsimp only at hSw)
        first | (go_simp; done) | (go_simp; simp [*]; done) | skip
      try simp only [Act.put, List.getElem_toArray, List.getElem_cons_zero, List.getElem_cons_succ, List.setIfInBounds_toArray, List.set_cons_zero, List.set_cons_succ]
      refine wpAnyH_take (i := 3) (v := undef) rfl (by kernel_rfl) (by kernel_rfl) (by kernel_rfl) (fun _ _ _ h => h) (Or.inr ⟨by rfl, rfl⟩) (by assumption) ?_
      try simp only [Act.put, List.getElem_toArray, List.getElem_cons_zero, List.getElem_cons_succ, List.setIfInBounds_toArray, List.set_cons_zero, List.set_cons_succ]
      refine wpAnyH_take (i := 4) (v := undef) rfl (by kernel_rfl) (by kernel_rfl) (by kernel_rfl) (fun _ _ _ h => h) (Or.inr ⟨by rfl, rfl⟩) (by assumption) ?_
      try simp only [Act.put, List.getElem_toArray, List.getElem_cons_zero, List.getElem_cons_succ, List.setIfInBounds_toArray, List.set_cons_zero, List.set_cons_succ]
      refine wpAnyH_take (i := 5) (v := undef) rfl (by kernel_rfl) (by kernel_rfl) (by kernel_rfl) (fun _ _ _ h => h) (Or.inr ⟨by rfl, rfl⟩) (by assumption) ?_
      try simp only [Act.put, List.getElem_toArray, List.getElem_cons_zero, List.getElem_cons_succ, List.setIfInBounds_toArray, List.set_cons_zero, List.set_cons_succ]
      refine wpAnyH_take (i := 6) (v := undef) rfl (by kernel_rfl) (by kernel_rfl) (by kernel_rfl) (fun _ _ _ h => h) (Or.inr ⟨by rfl, rfl⟩) (by assumption) ?_
      try simp only [Act.put, List.getElem_toArray, List.getElem_cons_zero, List.getElem_cons_succ, List.setIfInBounds_toArray, List.set_cons_zero, List.set_cons_succ]
      refine wpAnyH_take (i := 7) (v := undef) rfl (by kernel_rfl) (by kernel_rfl) (by kernel_rfl) (fun _ _ _ h => h) (Or.inr ⟨by rfl, rfl⟩) (by assumption) ?_
      try simp only [Act.put, List.getElem_toArray, List.getElem_cons_zero, List.getElem_cons_succ, List.setIfInBounds_toArray, List.set_cons_zero, List.set_cons_succ]
      refine wpAnyH_take (i := 8) (v := .bool false) rfl (by kernel_rfl) (by kernel_rfl) (by kernel_rfl) (fun _ _ _ h => h) (Or.inl ⟨by rfl, ?_⟩) (by assumption) ?_
      · intro w hSw
        (try dsimp only at hSw)
        first | (go_simp; done) | (go_simp; simp [*]; done) | skip
      try simp only [Act.put, List.getElem_toArray, List.getElem_cons_zero, List.getElem_cons_succ, List.setIfInBounds_toArray, List.set_cons_zero, List.set_cons_succ]
      refine wpAnyH_take (i := 9) (v := .bool false) rfl (by kernel_rfl) (by kernel_rfl) (by kernel_rfl) (fun _ _ _ h => h) (Or.inl ⟨by rfl, ?_⟩) (by assumption) ?_
      · intro w hSw
        (try dsimp only at hSw)
        first | (go_simp; done) | (go_simp; simp [*]; done) | skip
      try simp only [Act.put, List.getElem_toArray, List.getElem_cons_zero, List.getElem_cons_succ, List.setIfInBounds_toArray, List.set_cons_zero, List.set_cons_succ]
      refine wpAnyH_take (i := 10) (v := undef) rfl (by kernel_rfl) (by kernel_rfl) (by kernel_rfl) (fun _ _ _ h => h) (Or.inr ⟨by rfl, rfl⟩) (by assumption) ?_
      try simp only [Act.put, List.getElem_toArray, List.getElem_cons_zero, List.getElem_cons_succ, List.setIfInBounds_toArray, List.set_cons_zero, List.set_cons_succ]
      refine wpAnyH_take (i := 11) (v := undef) rfl (by kernel_rfl) (by kernel_rfl) (by kernel_rfl) (fun _ _ _ h => h) (Or.inr ⟨by rfl, rfl⟩) (by assumption) ?_
      try simp only [Act.put, List.getElem_toArray, List.getElem_cons_zero, List.getElem_cons_succ, List.setIfInBounds_toArray, List.set_cons_zero, List.set_cons_succ]
      refine wpAnyH_take (i := 12) (v := undef) rfl (by kernel_rfl) (by kernel_rfl) (by kernel_rfl) (fun _ _ _ h => h) (Or.inr ⟨by rfl, rfl⟩) (by assumption) ?_
      try simp only [Act.put, List.getElem_toArray, List.getElem_cons_zero, List.getElem_cons_succ, List.setIfInBounds_toArray, List.set_cons_zero, List.set_cons_succ]
      refine wpAnyH_take (i := 13) (v := undef) rfl (by kernel_rfl) (by kernel_rfl) (by kernel_rfl) (fun _ _ _ h => h) (Or.inr ⟨by rfl, rfl⟩) (by assumption) ?_
      try simp only [Act.put, List.getElem_toArray, List.getElem_cons_zero, List.getElem_cons_succ, List.setIfInBounds_toArray, List.set_cons_zero, List.set_cons_succ]
      refine wpAnyH_take (i := 14) (v := undef) rfl (by kernel_rfl) (by kernel_rfl) (by kernel_rfl) (fun _ _ _ h => h) (Or.inr ⟨by rfl, rfl⟩) (by assumption) ?_
      try simp only [Act.put, List.getElem_toArray, List.getElem_cons_zero, List.getElem_cons_succ, List.setIfInBounds_toArray, List.set_cons_zero, List.set_cons_succ]
      refine wpAnyH_take (i := 15) (v := undef) rfl (by kernel_rfl) (by kernel_rfl) (by kernel_rfl) (fun _ _ _ h => h) (Or.inr ⟨by rfl, rfl⟩) (by assumption) ?_
      try simp only [Act.put, List.getElem_toArray, List.getElem_cons_zero, List.getElem_cons_succ, List.setIfInBounds_toArray, List.set_cons_zero, List.set_cons_succ]
      refine wpAnyH_take (i := 16) (v := .bool false) rfl (by kernel_rfl) (by kernel_rfl) (by kernel_rfl) (fun _ _ _ h => h) (Or.inl ⟨by rfl, ?_⟩) (by assumption) ?_
      · intro w hSw
        (try dsimp only at hSw)
        first | (go_simp; done) | (go_simp; simp [*]; done) | skip
      try simp only [Act.put, List.getElem_toArray, List.getElem_cons_zero, List.getElem_cons_succ, List.setIfInBounds_toArray, List.set_cons_zero, List.set_cons_succ]
      refine wpAnyH_done (by kernel_rfl) ?_ _
      all_goals go_wp2_with fail
      all_goals (
        go_meet
        exact ⟨rfl, KZ⟩)
    · replace hn3 := hn3 rfl; replace hn4 := hn4 rfl; replace hh3 := hh3 rfl; replace hh4 := hh4 rfl
      refine wp_region_held_drew (S := (fun w' => w'.cell? ⟨gy, 0, none⟩ = some (.int .u64 P1) ∧ w'.cell? ⟨gy, 1, none⟩ = some (.int .u64 P2))) (by kernel_rfl) ?_ (fun hHeld => ?_)
      · exact ⟨yd0, yd1⟩
      refine wpAnyH_take (i := 0) (v := .float .f64 HI) rfl (by kernel_rfl) (by kernel_rfl) (by kernel_rfl) (fun _ _ _ h => h) (Or.inl ⟨by rfl, ?_⟩) (by assumption) ?_
      · intro w hSw
        (try dsimp only at hSw)
        first | (go_simp; done) | (go_simp; simp [*]; done) | skip
      try simp only [Act.put, List.getElem_toArray, List.getElem_cons_zero, List.getElem_cons_succ, List.setIfInBounds_toArray, List.set_cons_zero, List.set_cons_succ]
      refine wpAnyH_ready (rs := [1]) (by kernel_rfl) (by simp) ?_
      refine AllReadyH.cons rfl (fun K hK => ?_) AllReadyH.nil
      go_simp
      go_at_call 9; refine (hfh _).mono ?_; rintro e wz ⟨rfl, gz⟩; have KZ : Kp W wz := Kp.trans (Kp.drew (Kp.refl _)) gz; have cz0 := kkeep KZ y0; have cz1 := kkeep KZ y1
      go_wp2_with fail
      refine hK.out _ _ ?_ (fun hHeld => ?_)
      · exact ⟨cz0, cz1⟩
      clear hK K
      try simp only [Act.put, List.getElem_toArray, List.getElem_cons_zero, List.getElem_cons_succ, List.setIfInBounds_toArray, List.set_cons_zero, List.set_cons_succ]
      refine wpAnyH_take (i := 2) (v := .bool true) rfl (by kernel_rfl) (by kernel_rfl) (by kernel_rfl) (fun _ _ _ h => h) (Or.inl ⟨by rfl, ?_⟩) (by assumption) ?_
      · intro w hSw
        (try dsimp only at hSw)
        first | (go_simp; done) | (go_simp; simp [*]; done) | skip
      try simp only [Act.put, List.getElem_toArray, List.getElem_cons_zero, List.getElem_cons_succ, List.setIfInBounds_toArray, List.set_cons_zero, List.set_cons_succ]
      refine wpAnyH_take (i := 3) (v := .agg #[.int .u64 P1, .int .u64 P2]) rfl (by kernel_rfl) (by kernel_rfl) (by kernel_rfl) (fun _ _ _ h => h) (Or.inl ⟨by rfl, ?_⟩) (by assumption) ?_
      · intro w hSw
        (try dsimp only at hSw)
        first | (go_simp; done) | (go_simp; simp [*]; done) | skip
      try simp only [Act.put, List.getElem_toArray, List.getElem_cons_zero, List.getElem_cons_succ, List.setIfInBounds_toArray, List.set_cons_zero, List.set_cons_succ]
      refine wpAnyH_take (i := 4) (v := .float .f64 HI) rfl (by kernel_rfl) (by kernel_rfl) (by kernel_rfl) (fun _ _ _ h => h) (Or.inl ⟨by rfl, ?_⟩) (by assumption) ?_
      · intro w hSw
        (try dsimp only at hSw)
        first | (go_simp; done) | (go_simp; simp [*]; done) | skip
      try simp only [Act.put, List.getElem_toArray, List.getElem_cons_zero, List.getElem_cons_succ, List.setIfInBounds_toArray, List.set_cons_zero, List.set_cons_succ]
      refine wpAnyH_ready (rs := [5]) (by kernel_rfl) (by simp) ?_
      refine AllReadyH.cons rfl (fun K hK => ?_) AllReadyH.nil
      go_simp
      go_at_call_of 11 (Value.float .f64 HI); refine (hn3 _).mono ?_; rintro e w3 ⟨s, p, l, c, q, k, d, rfl, hp, g3⟩; have K0 : Kp W w3 := Kp.trans KZ g3; have ca0 := kkeep K0 y0; have ca1 := kkeep K0 y1
      go_wp2_with fail
      refine hK.out _ _ ?_ (fun hHeld => ?_)
      · exact ⟨ca0, ca1⟩
      clear hK K
      try simp only [Act.put, List.getElem_toArray, List.getElem_cons_zero, List.getElem_cons_succ, List.setIfInBounds_toArray, List.set_cons_zero, List.set_cons_succ]
      refine wpAnyH_ready (rs := [6]) (by kernel_rfl) (by simp) ?_
      refine AllReadyH.cons rfl (fun K hK => ?_) AllReadyH.nil
      go_simp
      go_at_call_of 10 (Value.slice p l c); refine (hh3 _ s p l c q k d hp).mono ?_; rintro e w4 ⟨rfl, g4⟩; have K1 : Kp W w4 := Kp.trans K0 g4; have cb0 := kkeep K1 y0; have cb1 := kkeep K1 y1
      go_wp2_with fail
      refine hK.out _ _ ?_ (fun hHeld => ?_)
      · exact ⟨cb0, cb1⟩
      clear hK K
      try simp only [Act.put, List.getElem_toArray, List.getElem_cons_zero, List.getElem_cons_succ, List.setIfInBounds_toArray, List.set_cons_zero, List.set_cons_succ]
      refine wpAnyH_take (i := 7) (v := .bool false) rfl (by kernel_rfl) (by kernel_rfl) (by kernel_rfl) (fun _ _ _ h => h) (Or.inl ⟨by rfl, ?_⟩) (by assumption) ?_
      · intro w hSw
        (try dsimp only at hSw)
        first | (go_simp; done) | (go_simp; simp [*]; done) | skip
      try simp only [Act.put, List.getElem_toArray, List.getElem_cons_zero, List.getElem_cons_succ, List.setIfInBounds_toArray, List.set_cons_zero, List.set_cons_succ]
      refine wpAnyH_take (i := 8) (v := .bool false) rfl (by kernel_rfl) (by kernel_rfl) (by kernel_rfl) (fun _ _ _ h => h) (Or.inl ⟨by rfl, ?_⟩) (by assumption) ?_
      · intro w hSw
        (try dsimp only at hSw)
        first | (go_simp; done) | (go_simp; simp [*]; done) | skip
      try simp only [Act.put, List.getElem_toArray, List.getElem_cons_zero, List.getElem_cons_succ, List.setIfInBounds_toArray, List.set_cons_zero, List.set_cons_succ]
      refine wpAnyH_take (i := 9) (v := .bool false) rfl (by kernel_rfl) (by kernel_rfl) (by kernel_rfl) (fun _ _ _ h => h) (Or.inl ⟨by rfl, ?_⟩) (by assumption) ?_
      · intro w hSw
        (try dsimp only at hSw)
        first | (go_simp; done) | (go_simp; simp [*]; done) | skip
      try simp only [Act.put, List.getElem_toArray, List.getElem_cons_zero, List.getElem_cons_succ, List.setIfInBounds_toArray, List.set_cons_zero, List.set_cons_succ]
      refine wpAnyH_take (i := 10) (v := undef) rfl (by kernel_rfl) (by kernel_rfl) (by kernel_rfl) (fun _ _ _ h => h) (Or.inr ⟨by rfl, rfl⟩) (by assumption) ?_
      try simp only [Act.put, List.getElem_toArray, List.getElem_cons_zero, List.getElem_cons_succ, List.setIfInBounds_toArray, List.set_cons_zero, List.set_cons_succ]
      refine wpAnyH_take (i := 11) (v := undef) rfl (by kernel_rfl) (by kernel_rfl) (by kernel_rfl) (fun _ _ _ h => h) (Or.inr ⟨by rfl, rfl⟩) (by assumption) ?_
      try simp only [Act.put, List.getElem_toArray, List.getElem_cons_zero, List.getElem_cons_succ, List.setIfInBounds_toArray, List.set_cons_zero, List.set_cons_succ]
      refine wpAnyH_take (i := 12) (v := undef) rfl (by kernel_rfl) (by kernel_rfl) (by kernel_rfl) (fun _ _ _ h => h) (Or.inr ⟨by rfl, rfl⟩) (by assumption) ?_
      try simp only [Act.put, List.getElem_toArray, List.getElem_cons_zero, List.getElem_cons_succ, List.setIfInBounds_toArray, List.set_cons_zero, List.set_cons_succ]
      refine wpAnyH_take (i := 13) (v := undef) rfl (by kernel_rfl) (by kernel_rfl) (by kernel_rfl) (fun _ _ _ h => h) (Or.inr ⟨by rfl, rfl⟩) (by assumption) ?_
      try simp only [Act.put, List.getElem_toArray, List.getElem_cons_zero, List.getElem_cons_succ, List.setIfInBounds_toArray, List.set_cons_zero, List.set_cons_succ]
      refine wpAnyH_take (i := 14) (v := undef) rfl (by kernel_rfl) (by kernel_rfl) (by kernel_rfl) (fun _ _ _ h => h) (Or.inr ⟨by rfl, rfl⟩) (by assumption) ?_
      try simp only [Act.put, List.getElem_toArray, List.getElem_cons_zero, List.getElem_cons_succ, List.setIfInBounds_toArray, List.set_cons_zero, List.set_cons_succ]
      refine wpAnyH_take (i := 15) (v := undef) rfl (by kernel_rfl) (by kernel_rfl) (by kernel_rfl) (fun _ _ _ h => h) (Or.inr ⟨by rfl, rfl⟩) (by assumption) ?_
      try simp only [Act.put, List.getElem_toArray, List.getElem_cons_zero, List.getElem_cons_succ, List.setIfInBounds_toArray, List.set_cons_zero, List.set_cons_succ]
      refine wpAnyH_take (i := 16) (v := .bool false) rfl (by kernel_rfl) (by kernel_rfl) (by kernel_rfl) (fun _ _ _ h => h) (Or.inl ⟨by rfl, ?_⟩) (by assumption) ?_
      · intro w hSw
        (try dsimp only at hSw)
        first | (go_simp; done) | (go_simp; simp [*]; done) | skip
      try simp only [Act.put, List.getElem_toArray, List.getElem_cons_zero, List.getElem_cons_succ, List.setIfInBounds_toArray, List.set_cons_zero, List.set_cons_succ]
      refine wpAnyH_done (by kernel_rfl) ?_ _
      all_goals go_wp2_with fail
      all_goals (
        go_meet
        exact ⟨rfl, K1⟩)
    · replace hn3 := hn3 rfl; replace hn4 := hn4 rfl; replace hh3 := hh3 rfl; replace hh4 := hh4 rfl
      first | go_region_held3 (fun w' => w'.cell? ⟨gy, 0, none⟩ = some (.int .u64 P1) ∧ w'.cell? ⟨gy, 1, none⟩ = some (.int .u64 P2)) (first | (with_reducible exact ⟨y0, y1⟩) | (with_reducible exact ⟨yd0, yd1⟩) | (with_reducible exact ⟨cz0, cz1⟩) | (with_reducible exact ⟨ca0, ca1⟩) | (with_reducible exact ⟨cb0, cb1⟩) | (with_reducible exact ⟨cc0, cc1⟩) | (with_reducible exact ⟨ce0, ce1⟩)) (first | (go_at_call 9; refine (hfh _).mono ?_; rintro e wz ⟨rfl, gz⟩; have KZ : Kp W wz := Kp.trans (Kp.drew (Kp.refl _)) gz; have cz0 := kkeep KZ y0; have cz1 := kkeep KZ y1) | (go_at_call_of 11 (Value.float .f64 HI); refine (hn3 _).mono ?_; rintro e w3 ⟨s, p, l, c, q, k, d, rfl, hp, g3⟩; have K0 : Kp W w3 := Kp.trans KZ g3; have ca0 := kkeep K0 y0; have ca1 := kkeep K0 y1) | (go_at_call_of 10 (Value.slice p l c); refine (hh3 _ s p l c q k d hp).mono ?_; rintro e w4 ⟨rfl, g4⟩; have K1 : Kp W w4 := Kp.trans K0 g4; have cb0 := kkeep K1 y0; have cb1 := kkeep K1 y1) | (go_at_call_of 11 (Value.float .f64 HN); refine (hn4 _).mono ?_; rintro e w5 ⟨s2, p2, l2, c2, q2, k2, d2, rfl, hp2, g5⟩; have K2 : Kp W w5 := Kp.trans K1 g5; have cc0 := kkeep K2 y0; have cc1 := kkeep K2 y1) | (go_at_call_of 10 (Value.slice p2 l2 c2); refine (hh4 _ s2 p2 l2 c2 q2 k2 d2 hp2).mono ?_; rintro e w6 ⟨rfl, g6⟩; have K3 : Kp W w6 := Kp.trans K2 g6; have ce0 := kkeep K3 y0; have ce1 := kkeep K3 y1)) | fail
      all_goals go_wp2_with fail
      all_goals (
        go_meet
        exact ⟨rfl, K3⟩)
  case rest =>
  obtain ⟨rfl, gc⟩ := hcut
  replace sx := Fq.H2.keep sx gc
  replace sv := H3c.keep sv gc
  replace sy := Fq.H2.keep sy gc
  replace hz := hkr _ _ gc hz
  replace kW := Kp.trans kW gc
  clear gc
  generalize wc = W at sx sv sy hz kW ⊢
  obtain ⟨x0, x1, x2, x3⟩ := id sx; obtain ⟨v0, v1, v2, v3, v4, v5⟩ := id sv
  go_wp2_with (first | (go_at_call 12; refine (hno _ hz).mono ?_; rintro e wn ⟨pn, cn, rfl, gn⟩; replace sx := Fq.H2.keep sx gn; replace sv := H3c.keep sv gn; replace sy := Fq.H2.keep sy gn; replace hz := hkr _ _ gn hz; replace kW := Kp.trans kW gn; clear gn x0 x1 x2 x3 v0 v1 v2 v3 v4 v5; obtain ⟨x0, x1, x2, x3⟩ := id sx; obtain ⟨v0, v1, v2, v3, v4, v5⟩ := id sv; obtain ⟨y0, y1, y2, y3⟩ := id sy))
  exact bodyPost_ret (v := .bool true) (by simp [results, Try.results3, go_sem]) rfl ⟨rfl, kW⟩
set_option maxRecDepth 20000 in
set_option maxHeartbeats 4000000 in
theorem reachV_ (X1 X2 P1 P2 : Int) (A1 A2 LO HI : Nat) (s3 : Bool) (p3 : Option Addr) (l3 c3 : Nat) (q3 : Option Addr) (k3 d3 : Nat) (RWp : World → Prop) (hkr : ∀ W W' : World, Kp W W' → RWp W → RWp W') (FH B1 B2 B3 B4 : Bool) (LN HN : Nat) (PL PLn : World → Bool → Option Addr → Nat → Nat → Option Addr → Nat → Nat → Prop) (PH PHn : World → Bool → Option Addr → Nat → Nat → Option Addr → Nat → Nat → Prop) (hm3 : ∀ w : World, Calls Try.prog 4 #[.agg #[.float .f64 13837309855095848960, .float .f64 4611686018427387904]] w fun e w' => e = .returned (.float .f64 4613937818241073152) ∧ Kp w w') (hr : ∀ w : World, Calls Try.prog 5 #[.agg #[.int .u64 X1, .int .u64 X2]] w fun e w' => e = .returned (.agg #[.int .u64 P1, .int .u64 P2]) ∧ Kp w w') (hin : ∀ w : World, Calls Try.prog 8 #[.agg #[.int .u64 X1, .int .u64 X2]] w fun e w' => e = .returned (.agg #[.float .f64 A1, .float .f64 A2]) ∧ Kp w w') (hlo : ∀ w : World, Calls Try.prog 7 #[.agg #[.float .f64 A1, .float .f64 A2]] w fun e w' => e = .returned (.float .f64 LO) ∧ Kp w w') (hhi : ∀ w : World, Calls Try.prog 4 #[.agg #[.float .f64 A1, .float .f64 A2]] w fun e w' => e = .returned (.float .f64 HI) ∧ Kp w w') (hfl : ∀ w : World, Calls Try.prog 9 #[.float .f64 LO] w fun e w' => e = .returned (.bool true) ∧ Kp w w') (hfh : ∀ w : World, Calls Try.prog 9 #[.float .f64 HI] w fun e w' => e = .returned (.bool FH) ∧ Kp w w') (tl : (FloatKind.f64.format.order LO 0 == some Ordering.lt) = false) (th : (FloatKind.f64.format.order HI HI == some Ordering.eq) = true) (tw : (FloatKind.f64.format.order HI LO == some Ordering.lt) = false) (ng1 : ∀ w : World, (Op.unary .neg (.float .f64 LO)).run Try.prog w = .ok (.float .f64 LN) w) (ng2 : ∀ w : World, (Op.unary .neg (.float .f64 HI)).run Try.prog w = .ok (.float .f64 HN) w) (d1 : LO ≠ LN) (d2 : HI ≠ HN) (hn1 : ∀ W : World, Calls Try.prog 11 #[.float .f64 LO] W fun e w' => ∃ (s : Bool) (p : Option Addr) (l c : Nat) (q : Option Addr) (k d : Nat), e = .returned (.agg #[.bool s, .slice p l c, .slice q k d]) ∧ PL w' s p l c q k d ∧ Kp W w') (hh1 : ∀ (W : World) (s : Bool) (p : Option Addr) (l c : Nat) (q : Option Addr) (k d : Nat), PL W s p l c q k d → Calls Try.prog 10 #[.agg #[.int .u64 P1, .int .u64 P2], .agg #[.bool s, .slice p l c, .slice q k d]] W fun e w' => e = .returned (.bool B1) ∧ Kp W w') (hn2 : ∀ W : World, Calls Try.prog 11 #[.float .f64 LN] W fun e w' => ∃ (s : Bool) (p : Option Addr) (l c : Nat) (q : Option Addr) (k d : Nat), e = .returned (.agg #[.bool s, .slice p l c, .slice q k d]) ∧ PLn w' s p l c q k d ∧ Kp W w') (hh2 : ∀ (W : World) (s : Bool) (p : Option Addr) (l c : Nat) (q : Option Addr) (k d : Nat), PLn W s p l c q k d → Calls Try.prog 10 #[.agg #[.int .u64 P1, .int .u64 P2], .agg #[.bool s, .slice p l c, .slice q k d]] W fun e w' => e = .returned (.bool B2) ∧ Kp W w') (hn3 : FH = true → ∀ W : World, Calls Try.prog 11 #[.float .f64 HI] W fun e w' => ∃ (s : Bool) (p : Option Addr) (l c : Nat) (q : Option Addr) (k d : Nat), e = .returned (.agg #[.bool s, .slice p l c, .slice q k d]) ∧ PH w' s p l c q k d ∧ Kp W w') (hh3 : FH = true → ∀ (W : World) (s : Bool) (p : Option Addr) (l c : Nat) (q : Option Addr) (k d : Nat), PH W s p l c q k d → Calls Try.prog 10 #[.agg #[.int .u64 P1, .int .u64 P2], .agg #[.bool s, .slice p l c, .slice q k d]] W fun e w' => e = .returned (.bool B3) ∧ Kp W w') (hn4 : FH = true → ∀ W : World, Calls Try.prog 11 #[.float .f64 HN] W fun e w' => ∃ (s : Bool) (p : Option Addr) (l c : Nat) (q : Option Addr) (k d : Nat), e = .returned (.agg #[.bool s, .slice p l c, .slice q k d]) ∧ PHn w' s p l c q k d ∧ Kp W w') (hh4 : FH = true → ∀ (W : World) (s : Bool) (p : Option Addr) (l c : Nat) (q : Option Addr) (k d : Nat), PHn W s p l c q k d → Calls Try.prog 10 #[.agg #[.int .u64 P1, .int .u64 P2], .agg #[.bool s, .slice p l c, .slice q k d]] W fun e w' => e = .returned (.bool B4) ∧ Kp W w') (hB : (B1 || B2) = true ∧ (FH = false ∨ (FH = true ∧ B3 = true) ∨ (FH = true ∧ B3 = false ∧ B4 = true))) (te : (P1 == 9218868437227405312) = false) (ND : Nat) (hno : ∀ W : World, RWp W → Calls Try.prog 12 #[.slice q3 k3 d3] W fun e w' => ∃ (pn : Option Addr) (cn : Nat), e = .returned (.slice pn ND cn) ∧ Kp W w') (tz : ¬ ((ND : Int) = 0)) (tzb : ((ND : Int) == 0) = false) (tzn : ¬ ND = 0) (hv : ∀ W : World, RWp W → Calls Try.prog 10 #[.agg #[.int .u64 P1, .int .u64 P2], .agg #[.bool s3, .slice p3 l3 c3, .slice q3 k3 d3]] W fun e w' => e = .returned (.bool false) ∧ Kp W w') (w : World) (hz0 : RWp w) : Calls Try.prog 3 #[.agg #[.int .u64 X1, .int .u64 X2], .agg #[.bool s3, .slice p3 l3 c3, .slice q3 k3 d3]] w fun e w' => e = .returned (.bool true) ∧ Kp w w' := by
  have HB : Hid ((B1 || B2) = true ∧ (FH = false ∨ (FH = true ∧ B3 = true) ∨ (FH = true ∧ B3 = false ∧ B4 = true))) := hB
  clear hB
  have th2 : FloatKind.f64.format.order HI HI = some Ordering.eq := by simpa using th
  have tl2 : ¬ (FloatKind.f64.format.order LO 0 = some Ordering.lt) := by simpa using tl
  have tw2 : ¬ (FloatKind.f64.format.order HI LO = some Ordering.lt) := by simpa using tw
  have t3 : (FloatKind.f64.format.order 4613937818241073152 4613937818241073152 == some Ordering.eq) = true := by decide +kernel
  go_enter Try.func3, Try.ntmps3
  go_upto_region 4 with (first | (go_at_call 4; refine (hm3 _).mono ?_; rintro e W ⟨rfl, g1⟩; have kW : Kp w W := Kp.trans (((Kp.refl w).alloc _).alloc _) g1; have sx := Fq.H2.keep (Fq.H2.new w (.int .u64 X1) (.int .u64 X2) 24) (Kp.trans ((Kp.refl _).alloc (.cells #[.bool s3, .slice p3 l3 c3, .slice q3 k3 d3] 27)) g1); have sv := H3c.keep (H3c.two w #[.int .u64 X1, .int .u64 X2] (.bool s3) (.slice p3 l3 c3) (.slice q3 k3 d3) 24 27) g1; have hz := hkr _ _ kW hz0; obtain ⟨x0, x1, x2, x3⟩ := id sx; obtain ⟨v0, v1, v2, v3, v4, v5⟩ := id sv) | (go_at_call 5; refine (hr _).mono ?_; rintro e wa ⟨rfl, ga⟩; have ga2 := Kp.trans ga ((Kp.refl _).alloc (.cells #[.int .u64 P1, .int .u64 P2] 24)); replace sx := Fq.H2.keep sx ga2; replace sv := H3c.keep sv ga2; replace hz := hkr _ _ ga2 hz; replace kW := Kp.trans kW ga2; have sy := Fq.H2.new wa (.int .u64 P1) (.int .u64 P2) 24; clear x0 x1 x2 x3 v0 v1 v2 v3 v4 v5; obtain ⟨x0, x1, x2, x3⟩ := id sx; obtain ⟨v0, v1, v2, v3, v4, v5⟩ := id sv))
  generalize wa.alloc (.cells #[.int .u64 P1, .int .u64 P2] 24) = W at sx sv sy hz kW x0 x1 x2 x3 v0 v1 v2 v3 v4 v5 ⊢
  generalize wa.heap.size = gy at sy ⊢
  generalize w.heap.size + 1 = bv at sv v0 v1 v2 v3 v4 v5 ⊢
  generalize w.heap.size = bx at sx x0 x1 x2 x3 ⊢
  clear t3
  refine Fq.wp_region_grow (by kernel_rfl) (by kernel_rfl) (fun ι _ G hG hall => ?_)
  have cc0 : ∀ n, (G n).cell? ⟨gy, 0, none⟩ = some (.int .u64 P1) := fun n => Fq.gkeep (hG n) sy.1
  have cc1 : ∀ n, (G n).cell? ⟨gy, 1, none⟩ = some (.int .u64 P2) := fun n => Fq.gkeep (hG n) sy.2.1
  repeat (go_big_quiet_step (first | (go_at_call 6; exact (rempty9_ _).mono (fun e w' h => ⟨h.1, hall _ (Fq.gtrans (hG _) h.2)⟩))))
  refine wpQuiet_nil ?_
  rintro _ ⟨nq, rfl⟩
  have gq : Kp W (G nq) := hG nq
  clear cc0 cc1 hall hG
  replace sx := Fq.H2.keep sx gq
  replace sv := H3c.keep sv gq
  replace sy := Fq.H2.keep sy gq
  replace hz := hkr _ _ gq hz
  replace kW := Kp.trans kW gq
  clear gq x0 x1 x2 x3 v0 v1 v2 v3 v4 v5
  generalize G nq = W at sx sv sy hz kW ⊢
  obtain ⟨x0, x1, x2, x3⟩ := id sx; obtain ⟨v0, v1, v2, v3, v4, v5⟩ := id sv
  go_upto_region 8 with (first | (go_at_call 8; refine (hin _).mono ?_; rintro e wn ⟨rfl, gn⟩; replace sx := Fq.H2.keep sx gn; replace sv := H3c.keep sv gn; replace sy := Fq.H2.keep sy gn; replace hz := hkr _ _ gn hz; replace kW := Kp.trans kW gn; clear gn x0 x1 x2 x3 v0 v1 v2 v3 v4 v5; obtain ⟨x0, x1, x2, x3⟩ := id sx; obtain ⟨v0, v1, v2, v3, v4, v5⟩ := id sv) | (go_at_call 7; refine (hlo _).mono ?_; rintro e wn ⟨rfl, gn⟩; replace sx := Fq.H2.keep sx gn; replace sv := H3c.keep sv gn; replace sy := Fq.H2.keep sy gn; replace hz := hkr _ _ gn hz; replace kW := Kp.trans kW gn; clear gn x0 x1 x2 x3 v0 v1 v2 v3 v4 v5; obtain ⟨x0, x1, x2, x3⟩ := id sx; obtain ⟨v0, v1, v2, v3, v4, v5⟩ := id sv) | (go_at_call 4; refine (hhi _).mono ?_; rintro e wn ⟨rfl, gn⟩; replace sx := Fq.H2.keep sx gn; replace sv := H3c.keep sv gn; replace sy := Fq.H2.keep sy gn; replace hz := hkr _ _ gn hz; replace kW := Kp.trans kW gn; clear gn x0 x1 x2 x3 v0 v1 v2 v3 v4 v5; obtain ⟨x0, x1, x2, x3⟩ := id sx; obtain ⟨v0, v1, v2, v3, v4, v5⟩ := id sv))
  go_upto_region 10 with (first | (go_at_call 9; refine (hfl _).mono ?_; rintro e wn ⟨rfl, gn⟩; replace sx := Fq.H2.keep sx gn; replace sv := H3c.keep sv gn; replace sy := Fq.H2.keep sy gn; replace hz := hkr _ _ gn hz; replace kW := Kp.trans kW gn; clear gn x0 x1 x2 x3 v0 v1 v2 v3 v4 v5; obtain ⟨x0, x1, x2, x3⟩ := id sx; obtain ⟨v0, v1, v2, v3, v4, v5⟩ := id sv))
  clear x0 x1 x2 x3 v0 v1 v2 v3 v4 v5 tl th tw tl2 th2 tw2 hfl
  generalize wn = W at sx sv sy hz kW ⊢
  go_cut [52] (fun s52 wx => s52 = .bool false ∧ Kp W wx)
  case first =>
    have b12 := HB.out.1
    clear HB
    have y0 : W.cell? ⟨gy, 0, none⟩ = some (.int .u64 P1) := sy.1
    have y1 : W.cell? ⟨gy, 1, none⟩ = some (.int .u64 P2) := sy.2.1
    have yd0 : W.drew.cell? ⟨gy, 0, none⟩ = some (.int .u64 P1) := sy.1
    have yd1 : W.drew.cell? ⟨gy, 1, none⟩ = some (.int .u64 P2) := sy.2.1
    cases B1
    · cases B2
      · cases b12
      clear b12
      first | go_region_held3 (fun w' => w'.cell? ⟨gy, 0, none⟩ = some (.int .u64 P1) ∧ w'.cell? ⟨gy, 1, none⟩ = some (.int .u64 P2)) (first | (with_reducible exact ⟨y0, y1⟩) | (with_reducible exact ⟨yd0, yd1⟩) | (with_reducible exact ⟨cz0, cz1⟩) | (with_reducible exact ⟨ca0, ca1⟩) | (with_reducible exact ⟨cb0, cb1⟩) | (with_reducible exact ⟨cc0, cc1⟩) | (with_reducible exact ⟨ce0, ce1⟩)) (first | (go_at_call_of 11 (Value.float .f64 LO); refine (hn1 _).mono ?_; rintro e w3 ⟨s, p, l, c, q, k, d, rfl, hp, g3⟩; have K0 : Kp W w3 := Kp.trans (Kp.drew (Kp.refl _)) g3; have ca0 := kkeep K0 y0; have ca1 := kkeep K0 y1) | (go_at_call_of 10 (Value.slice p l c); refine (hh1 _ s p l c q k d hp).mono ?_; rintro e w4 ⟨rfl, g4⟩; have K1 : Kp W w4 := Kp.trans K0 g4; have cb0 := kkeep K1 y0; have cb1 := kkeep K1 y1) | (go_at_call_of 11 (Value.float .f64 LN); refine (hn2 _).mono ?_; rintro e w5 ⟨s2, p2, l2, c2, q2, k2, d2, rfl, hp2, g5⟩; have K2 : Kp W w5 := Kp.trans K1 g5; have cc0 := kkeep K2 y0; have cc1 := kkeep K2 y1) | (go_at_call_of 10 (Value.slice p2 l2 c2); refine (hh2 _ s2 p2 l2 c2 q2 k2 d2 hp2).mono ?_; rintro e w6 ⟨rfl, g6⟩; have K3 : Kp W w6 := Kp.trans K2 g6; have ce0 := kkeep K3 y0; have ce1 := kkeep K3 y1)) | fail
      all_goals go_wp2_with fail
      all_goals (
        go_meet
        exact ⟨rfl, K3⟩)
    · clear b12
      refine wp_region_held_drew (S := (fun w' => w'.cell? ⟨gy, 0, none⟩ = some (.int .u64 P1) ∧ w'.cell? ⟨gy, 1, none⟩ = some (.int .u64 P2))) (by kernel_rfl) ?_ (fun hHeld => ?_)
      · exact ⟨yd0, yd1⟩
      refine wpAnyH_take (i := 0) (v := .agg #[.int .u64 P1, .int .u64 P2]) rfl (by kernel_rfl) (by kernel_rfl) (by kernel_rfl) (fun _ _ _ h => h) (Or.inl ⟨by rfl, ?_⟩) (by assumption) ?_
      · intro w hSw
        (try dsimp only at hSw)
        first | (go_simp; done) | (go_simp; simp [*]; done) | skip
      try simp only [Act.put, List.getElem_toArray, List.getElem_cons_zero, List.getElem_cons_succ, List.setIfInBounds_toArray, List.set_cons_zero, List.set_cons_succ]
      refine wpAnyH_take (i := 1) (v := .float .f64 LO) rfl (by kernel_rfl) (by kernel_rfl) (by kernel_rfl) (fun _ _ _ h => h) (Or.inl ⟨by rfl, ?_⟩) (by assumption) ?_
      · intro w hSw
        (try dsimp only at hSw)
        first | (go_simp; done) | (go_simp; simp [*]; done) | skip
      try simp only [Act.put, List.getElem_toArray, List.getElem_cons_zero, List.getElem_cons_succ, List.setIfInBounds_toArray, List.set_cons_zero, List.set_cons_succ]
      refine wpAnyH_ready (rs := [2]) (by kernel_rfl) (by simp) ?_
      refine AllReadyH.cons rfl (fun K hK => ?_) AllReadyH.nil
      go_simp
      go_at_call_of 11 (Value.float .f64 LO); refine (hn1 _).mono ?_; rintro e w3 ⟨s, p, l, c, q, k, d, rfl, hp, g3⟩; have K0 : Kp W w3 := Kp.trans (Kp.drew (Kp.refl _)) g3; have ca0 := kkeep K0 y0; have ca1 := kkeep K0 y1
      go_wp2_with fail
      refine hK.out _ _ ?_ (fun hHeld => ?_)
      · exact ⟨ca0, ca1⟩
      clear hK K
      try simp only [Act.put, List.getElem_toArray, List.getElem_cons_zero, List.getElem_cons_succ, List.setIfInBounds_toArray, List.set_cons_zero, List.set_cons_succ]
      refine wpAnyH_ready (rs := [3]) (by kernel_rfl) (by simp) ?_
      refine AllReadyH.cons rfl (fun K hK => ?_) AllReadyH.nil
      go_simp
      go_at_call_of 10 (Value.slice p l c); refine (hh1 _ s p l c q k d hp).mono ?_; rintro e w4 ⟨rfl, g4⟩; have K1 : Kp W w4 := Kp.trans K0 g4; have cb0 := kkeep K1 y0; have cb1 := kkeep K1 y1
      go_wp2_with fail
      refine hK.out _ _ ?_ (fun hHeld => ?_)
      · exact ⟨cb0, cb1⟩
      clear hK K
      try simp only [Act.put, List.getElem_toArray, List.getElem_cons_zero, List.getElem_cons_succ, List.setIfInBounds_toArray, List.set_cons_zero, List.set_cons_succ]
      refine wpAnyH_take (i := 4) (v := .bool false) rfl (by kernel_rfl) (by kernel_rfl) (by kernel_rfl) (fun _ _ _ h => h) (Or.inl ⟨by rfl, ?_⟩) (by assumption) ?_
      · intro w hSw
        (try dsimp only at hSw)
        first | (go_simp; done) | (go_simp; simp [*]; done) | skip
      try simp only [Act.put, List.getElem_toArray, List.getElem_cons_zero, List.getElem_cons_succ, List.setIfInBounds_toArray, List.set_cons_zero, List.set_cons_succ]
      refine wpAnyH_take (i := 5) (v := .bool false) rfl (by kernel_rfl) (by kernel_rfl) (by kernel_rfl) (fun _ _ _ h => h) (Or.inl ⟨by rfl, ?_⟩) (by assumption) ?_
      · intro w hSw
        (try dsimp only at hSw)
        first | (go_simp; done) | (go_simp; simp [*]; done) | skip
      try simp only [Act.put, List.getElem_toArray, List.getElem_cons_zero, List.getElem_cons_succ, List.setIfInBounds_toArray, List.set_cons_zero, List.set_cons_succ]
      refine wpAnyH_take (i := 6) (v := undef) rfl (by kernel_rfl) (by kernel_rfl) (by kernel_rfl) (fun _ _ _ h => h) (Or.inr ⟨by rfl, rfl⟩) (by assumption) ?_
      try simp only [Act.put, List.getElem_toArray, List.getElem_cons_zero, List.getElem_cons_succ, List.setIfInBounds_toArray, List.set_cons_zero, List.set_cons_succ]
      refine wpAnyH_take (i := 7) (v := undef) rfl (by kernel_rfl) (by kernel_rfl) (by kernel_rfl) (fun _ _ _ h => h) (Or.inr ⟨by rfl, rfl⟩) (by assumption) ?_
      try simp only [Act.put, List.getElem_toArray, List.getElem_cons_zero, List.getElem_cons_succ, List.setIfInBounds_toArray, List.set_cons_zero, List.set_cons_succ]
      refine wpAnyH_take (i := 8) (v := undef) rfl (by kernel_rfl) (by kernel_rfl) (by kernel_rfl) (fun _ _ _ h => h) (Or.inr ⟨by rfl, rfl⟩) (by assumption) ?_
      try simp only [Act.put, List.getElem_toArray, List.getElem_cons_zero, List.getElem_cons_succ, List.setIfInBounds_toArray, List.set_cons_zero, List.set_cons_succ]
      refine wpAnyH_take (i := 9) (v := undef) rfl (by kernel_rfl) (by kernel_rfl) (by kernel_rfl) (fun _ _ _ h => h) (Or.inr ⟨by rfl, rfl⟩) (by assumption) ?_
      try simp only [Act.put, List.getElem_toArray, List.getElem_cons_zero, List.getElem_cons_succ, List.setIfInBounds_toArray, List.set_cons_zero, List.set_cons_succ]
      refine wpAnyH_take (i := 10) (v := undef) rfl (by kernel_rfl) (by kernel_rfl) (by kernel_rfl) (fun _ _ _ h => h) (Or.inr ⟨by rfl, rfl⟩) (by assumption) ?_
      try simp only [Act.put, List.getElem_toArray, List.getElem_cons_zero, List.getElem_cons_succ, List.setIfInBounds_toArray, List.set_cons_zero, List.set_cons_succ]
      refine wpAnyH_take (i := 11) (v := undef) rfl (by kernel_rfl) (by kernel_rfl) (by kernel_rfl) (fun _ _ _ h => h) (Or.inr ⟨by rfl, rfl⟩) (by assumption) ?_
      try simp only [Act.put, List.getElem_toArray, List.getElem_cons_zero, List.getElem_cons_succ, List.setIfInBounds_toArray, List.set_cons_zero, List.set_cons_succ]
      refine wpAnyH_take (i := 12) (v := .bool false) rfl (by kernel_rfl) (by kernel_rfl) (by kernel_rfl) (fun _ _ _ h => h) (Or.inl ⟨by rfl, ?_⟩) (by assumption) ?_
      · intro w hSw
        (try dsimp only at hSw)
        first | (go_simp; done) | (go_simp; simp [*]; done) | skip
      try simp only [Act.put, List.getElem_toArray, List.getElem_cons_zero, List.getElem_cons_succ, List.setIfInBounds_toArray, List.set_cons_zero, List.set_cons_succ]
      refine wpAnyH_done (by kernel_rfl) ?_ _
      all_goals go_wp2_with fail
      all_goals (
        go_meet
        exact ⟨rfl, K1⟩)
  case rest =>
  obtain ⟨rfl, gc⟩ := hcut
  replace sx := Fq.H2.keep sx gc
  replace sv := H3c.keep sv gc
  replace sy := Fq.H2.keep sy gc
  replace hz := hkr _ _ gc hz
  replace kW := Kp.trans kW gc
  clear gc
  generalize wc = W at sx sv sy hz kW ⊢
  go_upto_region 12 with fail
  go_cut [69] (fun s69 wx => s69 = .bool false ∧ Kp W wx)
  case first =>
    have b34 := HB.out.2
    clear HB
    have y0 : W.cell? ⟨gy, 0, none⟩ = some (.int .u64 P1) := sy.1
    have y1 : W.cell? ⟨gy, 1, none⟩ = some (.int .u64 P2) := sy.2.1
    have yd0 : W.drew.cell? ⟨gy, 0, none⟩ = some (.int .u64 P1) := sy.1
    have yd1 : W.drew.cell? ⟨gy, 1, none⟩ = some (.int .u64 P2) := sy.2.1
    rcases b34 with rfl | ⟨rfl, rfl⟩ | ⟨rfl, rfl, rfl⟩
    · skip
      refine wp_region_held_drew (S := (fun w' => w'.cell? ⟨gy, 0, none⟩ = some (.int .u64 P1) ∧ w'.cell? ⟨gy, 1, none⟩ = some (.int .u64 P2))) (by kernel_rfl) ?_ (fun hHeld => ?_)
      · exact ⟨yd0, yd1⟩
      refine wpAnyH_take (i := 0) (v := .float .f64 HI) rfl (by kernel_rfl) (by kernel_rfl) (by kernel_rfl) (fun _ _ _ h => h) (Or.inl ⟨by rfl, ?_⟩) (by assumption) ?_
      · intro w hSw
        (try dsimp only at hSw)
        first | (go_simp; done) | (go_simp; simp [*]; done) | skip
      try simp only [Act.put, List.getElem_toArray, List.getElem_cons_zero, List.getElem_cons_succ, List.setIfInBounds_toArray, List.set_cons_zero, List.set_cons_succ]
      refine wpAnyH_ready (rs := [1]) (by kernel_rfl) (by simp) ?_
      refine AllReadyH.cons rfl (fun K hK => ?_) AllReadyH.nil
      go_simp
      go_at_call 9; refine (hfh _).mono ?_; rintro e wz ⟨rfl, gz⟩; have KZ : Kp W wz := Kp.trans (Kp.drew (Kp.refl _)) gz; have cz0 := kkeep KZ y0; have cz1 := kkeep KZ y1
      go_wp2_with fail
      refine hK.out _ _ ?_ (fun hHeld => ?_)
      · exact ⟨cz0, cz1⟩
      clear hK K
      try simp only [Act.put, List.getElem_toArray, List.getElem_cons_zero, List.getElem_cons_succ, List.setIfInBounds_toArray, List.set_cons_zero, List.set_cons_succ]
      refine wpAnyH_take (i := 2) (v := .bool false) rfl (by kernel_rfl) (by kernel_rfl) (by kernel_rfl) (fun _ _ _ h => h) (Or.inl ⟨by rfl, ?_⟩) (by assumption) ?_
      · intro w hSw
        (try dsimp only at hSw)
        first | (go_simp; done) | (go_simp; simp [*]; done) | skip
      try simp only [Act.put, List.getElem_toArray, List.getElem_cons_zero, List.getElem_cons_succ, List.setIfInBounds_toArray, List.set_cons_zero, List.set_cons_succ]
      refine wpAnyH_take (i := 3) (v := undef) rfl (by kernel_rfl) (by kernel_rfl) (by kernel_rfl) (fun _ _ _ h => h) (Or.inr ⟨by rfl, rfl⟩) (by assumption) ?_
      try simp only [Act.put, List.getElem_toArray, List.getElem_cons_zero, List.getElem_cons_succ, List.setIfInBounds_toArray, List.set_cons_zero, List.set_cons_succ]
      refine wpAnyH_take (i := 4) (v := undef) rfl (by kernel_rfl) (by kernel_rfl) (by kernel_rfl) (fun _ _ _ h => h) (Or.inr ⟨by rfl, rfl⟩) (by assumption) ?_
      try simp only [Act.put, List.getElem_toArray, List.getElem_cons_zero, List.getElem_cons_succ, List.setIfInBounds_toArray, List.set_cons_zero, List.set_cons_succ]
      refine wpAnyH_take (i := 5) (v := undef) rfl (by kernel_rfl) (by kernel_rfl) (by kernel_rfl) (fun _ _ _ h => h) (Or.inr ⟨by rfl, rfl⟩) (by assumption) ?_
      try simp only [Act.put, List.getElem_toArray, List.getElem_cons_zero, List.getElem_cons_succ, List.setIfInBounds_toArray, List.set_cons_zero, List.set_cons_succ]
      refine wpAnyH_take (i := 6) (v := undef) rfl (by kernel_rfl) (by kernel_rfl) (by kernel_rfl) (fun _ _ _ h => h) (Or.inr ⟨by rfl, rfl⟩) (by assumption) ?_
      try simp only [Act.put, List.getElem_toArray, List.getElem_cons_zero, List.getElem_cons_succ, List.setIfInBounds_toArray, List.set_cons_zero, List.set_cons_succ]
      refine wpAnyH_take (i := 7) (v := undef) rfl (by kernel_rfl) (by kernel_rfl) (by kernel_rfl) (fun _ _ _ h => h) (Or.inr ⟨by rfl, rfl⟩) (by assumption) ?_
      try simp only [Act.put, List.getElem_toArray, List.getElem_cons_zero, List.getElem_cons_succ, List.setIfInBounds_toArray, List.set_cons_zero, List.set_cons_succ]
      refine wpAnyH_take (i := 8) (v := .bool false) rfl (by kernel_rfl) (by kernel_rfl) (by kernel_rfl) (fun _ _ _ h => h) (Or.inl ⟨by rfl, ?_⟩) (by assumption) ?_
      · intro w hSw
        (try dsimp only at hSw)
        first | (go_simp; done) | (go_simp; simp [*]; done) | skip
      try simp only [Act.put, List.getElem_toArray, List.getElem_cons_zero, List.getElem_cons_succ, List.setIfInBounds_toArray, List.set_cons_zero, List.set_cons_succ]
      refine wpAnyH_take (i := 9) (v := .bool false) rfl (by kernel_rfl) (by kernel_rfl) (by kernel_rfl) (fun _ _ _ h => h) (Or.inl ⟨by rfl, ?_⟩) (by assumption) ?_
      · intro w hSw
        (try dsimp only at hSw)
        first | (go_simp; done) | (go_simp; simp [*]; done) | skip
      try simp only [Act.put, List.getElem_toArray, List.getElem_cons_zero, List.getElem_cons_succ, List.setIfInBounds_toArray, List.set_cons_zero, List.set_cons_succ]
      refine wpAnyH_take (i := 10) (v := undef) rfl (by kernel_rfl) (by kernel_rfl) (by kernel_rfl) (fun _ _ _ h => h) (Or.inr ⟨by rfl, rfl⟩) (by assumption) ?_
      try simp only [Act.put, List.getElem_toArray, List.getElem_cons_zero, List.getElem_cons_succ, List.setIfInBounds_toArray, List.set_cons_zero, List.set_cons_succ]
      refine wpAnyH_take (i := 11) (v := undef) rfl (by kernel_rfl) (by kernel_rfl) (by kernel_rfl) (fun _ _ _ h => h) (Or.inr ⟨by rfl, rfl⟩) (by assumption) ?_
      try simp only [Act.put, List.getElem_toArray, List.getElem_cons_zero, List.getElem_cons_succ, List.setIfInBounds_toArray, List.set_cons_zero, List.set_cons_succ]
      refine wpAnyH_take (i := 12) (v := undef) rfl (by kernel_rfl) (by kernel_rfl) (by kernel_rfl) (fun _ _ _ h => h) (Or.inr ⟨by rfl, rfl⟩) (by assumption) ?_
      try simp only [Act.put, List.getElem_toArray, List.getElem_cons_zero, List.getElem_cons_succ, List.setIfInBounds_toArray, List.set_cons_zero, List.set_cons_succ]
      refine wpAnyH_take (i := 13) (v := undef) rfl (by kernel_rfl) (by kernel_rfl) (by kernel_rfl) (fun _ _ _ h => h) (Or.inr ⟨by rfl, rfl⟩) (by assumption) ?_
      try simp only [Act.put, List.getElem_toArray, List.getElem_cons_zero, List.getElem_cons_succ, List.setIfInBounds_toArray, List.set_cons_zero, List.set_cons_succ]
      refine wpAnyH_take (i := 14) (v := undef) rfl (by kernel_rfl) (by kernel_rfl) (by kernel_rfl) (fun _ _ _ h => h) (Or.inr ⟨by rfl, rfl⟩) (by assumption) ?_
      try simp only [Act.put, List.getElem_toArray, List.getElem_cons_zero, List.getElem_cons_succ, List.setIfInBounds_toArray, List.set_cons_zero, List.set_cons_succ]
      refine wpAnyH_take (i := 15) (v := undef) rfl (by kernel_rfl) (by kernel_rfl) (by kernel_rfl) (fun _ _ _ h => h) (Or.inr ⟨by rfl, rfl⟩) (by assumption) ?_
      try simp only [Act.put, List.getElem_toArray, List.getElem_cons_zero, List.getElem_cons_succ, List.setIfInBounds_toArray, List.set_cons_zero, List.set_cons_succ]
      refine wpAnyH_take (i := 16) (v := .bool false) rfl (by kernel_rfl) (by kernel_rfl) (by kernel_rfl) (fun _ _ _ h => h) (Or.inl ⟨by rfl, ?_⟩) (by assumption) ?_
      · intro w hSw
        (try dsimp only at hSw)
        first | (go_simp; done) | (go_simp; simp [*]; done) | skip
      try simp only [Act.put, List.getElem_toArray, List.getElem_cons_zero, List.getElem_cons_succ, List.setIfInBounds_toArray, List.set_cons_zero, List.set_cons_succ]
      refine wpAnyH_done (by kernel_rfl) ?_ _
      all_goals go_wp2_with fail
      all_goals (
        go_meet
        exact ⟨rfl, KZ⟩)
    · replace hn3 := hn3 rfl; replace hn4 := hn4 rfl; replace hh3 := hh3 rfl; replace hh4 := hh4 rfl
      refine wp_region_held_drew (S := (fun w' => w'.cell? ⟨gy, 0, none⟩ = some (.int .u64 P1) ∧ w'.cell? ⟨gy, 1, none⟩ = some (.int .u64 P2))) (by kernel_rfl) ?_ (fun hHeld => ?_)
      · exact ⟨yd0, yd1⟩
      refine wpAnyH_take (i := 0) (v := .float .f64 HI) rfl (by kernel_rfl) (by kernel_rfl) (by kernel_rfl) (fun _ _ _ h => h) (Or.inl ⟨by rfl, ?_⟩) (by assumption) ?_
      · intro w hSw
        (try dsimp only at hSw)
        first | (go_simp; done) | (go_simp; simp [*]; done) | skip
      try simp only [Act.put, List.getElem_toArray, List.getElem_cons_zero, List.getElem_cons_succ, List.setIfInBounds_toArray, List.set_cons_zero, List.set_cons_succ]
      refine wpAnyH_ready (rs := [1]) (by kernel_rfl) (by simp) ?_
      refine AllReadyH.cons rfl (fun K hK => ?_) AllReadyH.nil
      go_simp
      go_at_call 9; refine (hfh _).mono ?_; rintro e wz ⟨rfl, gz⟩; have KZ : Kp W wz := Kp.trans (Kp.drew (Kp.refl _)) gz; have cz0 := kkeep KZ y0; have cz1 := kkeep KZ y1
      go_wp2_with fail
      refine hK.out _ _ ?_ (fun hHeld => ?_)
      · exact ⟨cz0, cz1⟩
      clear hK K
      try simp only [Act.put, List.getElem_toArray, List.getElem_cons_zero, List.getElem_cons_succ, List.setIfInBounds_toArray, List.set_cons_zero, List.set_cons_succ]
      refine wpAnyH_take (i := 2) (v := .bool true) rfl (by kernel_rfl) (by kernel_rfl) (by kernel_rfl) (fun _ _ _ h => h) (Or.inl ⟨by rfl, ?_⟩) (by assumption) ?_
      · intro w hSw
        (try dsimp only at hSw)
        first | (go_simp; done) | (go_simp; simp [*]; done) | skip
      try simp only [Act.put, List.getElem_toArray, List.getElem_cons_zero, List.getElem_cons_succ, List.setIfInBounds_toArray, List.set_cons_zero, List.set_cons_succ]
      refine wpAnyH_take (i := 3) (v := .agg #[.int .u64 P1, .int .u64 P2]) rfl (by kernel_rfl) (by kernel_rfl) (by kernel_rfl) (fun _ _ _ h => h) (Or.inl ⟨by rfl, ?_⟩) (by assumption) ?_
      · intro w hSw
        (try dsimp only at hSw)
        first | (go_simp; done) | (go_simp; simp [*]; done) | skip
      try simp only [Act.put, List.getElem_toArray, List.getElem_cons_zero, List.getElem_cons_succ, List.setIfInBounds_toArray, List.set_cons_zero, List.set_cons_succ]
      refine wpAnyH_take (i := 4) (v := .float .f64 HI) rfl (by kernel_rfl) (by kernel_rfl) (by kernel_rfl) (fun _ _ _ h => h) (Or.inl ⟨by rfl, ?_⟩) (by assumption) ?_
      · intro w hSw
        (try dsimp only at hSw)
        first | (go_simp; done) | (go_simp; simp [*]; done) | skip
      try simp only [Act.put, List.getElem_toArray, List.getElem_cons_zero, List.getElem_cons_succ, List.setIfInBounds_toArray, List.set_cons_zero, List.set_cons_succ]
      refine wpAnyH_ready (rs := [5]) (by kernel_rfl) (by simp) ?_
      refine AllReadyH.cons rfl (fun K hK => ?_) AllReadyH.nil
      go_simp
      go_at_call_of 11 (Value.float .f64 HI); refine (hn3 _).mono ?_; rintro e w3 ⟨s, p, l, c, q, k, d, rfl, hp, g3⟩; have K0 : Kp W w3 := Kp.trans KZ g3; have ca0 := kkeep K0 y0; have ca1 := kkeep K0 y1
      go_wp2_with fail
      refine hK.out _ _ ?_ (fun hHeld => ?_)
      · exact ⟨ca0, ca1⟩
      clear hK K
      try simp only [Act.put, List.getElem_toArray, List.getElem_cons_zero, List.getElem_cons_succ, List.setIfInBounds_toArray, List.set_cons_zero, List.set_cons_succ]
      refine wpAnyH_ready (rs := [6]) (by kernel_rfl) (by simp) ?_
      refine AllReadyH.cons rfl (fun K hK => ?_) AllReadyH.nil
      go_simp
      go_at_call_of 10 (Value.slice p l c); refine (hh3 _ s p l c q k d hp).mono ?_; rintro e w4 ⟨rfl, g4⟩; have K1 : Kp W w4 := Kp.trans K0 g4; have cb0 := kkeep K1 y0; have cb1 := kkeep K1 y1
      go_wp2_with fail
      refine hK.out _ _ ?_ (fun hHeld => ?_)
      · exact ⟨cb0, cb1⟩
      clear hK K
      try simp only [Act.put, List.getElem_toArray, List.getElem_cons_zero, List.getElem_cons_succ, List.setIfInBounds_toArray, List.set_cons_zero, List.set_cons_succ]
      refine wpAnyH_take (i := 7) (v := .bool false) rfl (by kernel_rfl) (by kernel_rfl) (by kernel_rfl) (fun _ _ _ h => h) (Or.inl ⟨by rfl, ?_⟩) (by assumption) ?_
      · intro w hSw
        (try dsimp only at hSw)
        first | (go_simp; done) | (go_simp; simp [*]; done) | skip
      try simp only [Act.put, List.getElem_toArray, List.getElem_cons_zero, List.getElem_cons_succ, List.setIfInBounds_toArray, List.set_cons_zero, List.set_cons_succ]
      refine wpAnyH_take (i := 8) (v := .bool false) rfl (by kernel_rfl) (by kernel_rfl) (by kernel_rfl) (fun _ _ _ h => h) (Or.inl ⟨by rfl, ?_⟩) (by assumption) ?_
      · intro w hSw
        (try dsimp only at hSw)
        first | (go_simp; done) | (go_simp; simp [*]; done) | skip
      try simp only [Act.put, List.getElem_toArray, List.getElem_cons_zero, List.getElem_cons_succ, List.setIfInBounds_toArray, List.set_cons_zero, List.set_cons_succ]
      refine wpAnyH_take (i := 9) (v := .bool false) rfl (by kernel_rfl) (by kernel_rfl) (by kernel_rfl) (fun _ _ _ h => h) (Or.inl ⟨by rfl, ?_⟩) (by assumption) ?_
      · intro w hSw
        (try dsimp only at hSw)
        first | (go_simp; done) | (go_simp; simp [*]; done) | skip
      try simp only [Act.put, List.getElem_toArray, List.getElem_cons_zero, List.getElem_cons_succ, List.setIfInBounds_toArray, List.set_cons_zero, List.set_cons_succ]
      refine wpAnyH_take (i := 10) (v := undef) rfl (by kernel_rfl) (by kernel_rfl) (by kernel_rfl) (fun _ _ _ h => h) (Or.inr ⟨by rfl, rfl⟩) (by assumption) ?_
      try simp only [Act.put, List.getElem_toArray, List.getElem_cons_zero, List.getElem_cons_succ, List.setIfInBounds_toArray, List.set_cons_zero, List.set_cons_succ]
      refine wpAnyH_take (i := 11) (v := undef) rfl (by kernel_rfl) (by kernel_rfl) (by kernel_rfl) (fun _ _ _ h => h) (Or.inr ⟨by rfl, rfl⟩) (by assumption) ?_
      try simp only [Act.put, List.getElem_toArray, List.getElem_cons_zero, List.getElem_cons_succ, List.setIfInBounds_toArray, List.set_cons_zero, List.set_cons_succ]
      refine wpAnyH_take (i := 12) (v := undef) rfl (by kernel_rfl) (by kernel_rfl) (by kernel_rfl) (fun _ _ _ h => h) (Or.inr ⟨by rfl, rfl⟩) (by assumption) ?_
      try simp only [Act.put, List.getElem_toArray, List.getElem_cons_zero, List.getElem_cons_succ, List.setIfInBounds_toArray, List.set_cons_zero, List.set_cons_succ]
      refine wpAnyH_take (i := 13) (v := undef) rfl (by kernel_rfl) (by kernel_rfl) (by kernel_rfl) (fun _ _ _ h => h) (Or.inr ⟨by rfl, rfl⟩) (by assumption) ?_
      try simp only [Act.put, List.getElem_toArray, List.getElem_cons_zero, List.getElem_cons_succ, List.setIfInBounds_toArray, List.set_cons_zero, List.set_cons_succ]
      refine wpAnyH_take (i := 14) (v := undef) rfl (by kernel_rfl) (by kernel_rfl) (by kernel_rfl) (fun _ _ _ h => h) (Or.inr ⟨by rfl, rfl⟩) (by assumption) ?_
      try simp only [Act.put, List.getElem_toArray, List.getElem_cons_zero, List.getElem_cons_succ, List.setIfInBounds_toArray, List.set_cons_zero, List.set_cons_succ]
      refine wpAnyH_take (i := 15) (v := undef) rfl (by kernel_rfl) (by kernel_rfl) (by kernel_rfl) (fun _ _ _ h => h) (Or.inr ⟨by rfl, rfl⟩) (by assumption) ?_
      try simp only [Act.put, List.getElem_toArray, List.getElem_cons_zero, List.getElem_cons_succ, List.setIfInBounds_toArray, List.set_cons_zero, List.set_cons_succ]
      refine wpAnyH_take (i := 16) (v := .bool false) rfl (by kernel_rfl) (by kernel_rfl) (by kernel_rfl) (fun _ _ _ h => h) (Or.inl ⟨by rfl, ?_⟩) (by assumption) ?_
      · intro w hSw
        (try dsimp only at hSw)
        first | (go_simp; done) | (go_simp; simp [*]; done) | skip
      try simp only [Act.put, List.getElem_toArray, List.getElem_cons_zero, List.getElem_cons_succ, List.setIfInBounds_toArray, List.set_cons_zero, List.set_cons_succ]
      refine wpAnyH_done (by kernel_rfl) ?_ _
      all_goals go_wp2_with fail
      all_goals (
        go_meet
        exact ⟨rfl, K1⟩)
    · replace hn3 := hn3 rfl; replace hn4 := hn4 rfl; replace hh3 := hh3 rfl; replace hh4 := hh4 rfl
      first | go_region_held3 (fun w' => w'.cell? ⟨gy, 0, none⟩ = some (.int .u64 P1) ∧ w'.cell? ⟨gy, 1, none⟩ = some (.int .u64 P2)) (first | (with_reducible exact ⟨y0, y1⟩) | (with_reducible exact ⟨yd0, yd1⟩) | (with_reducible exact ⟨cz0, cz1⟩) | (with_reducible exact ⟨ca0, ca1⟩) | (with_reducible exact ⟨cb0, cb1⟩) | (with_reducible exact ⟨cc0, cc1⟩) | (with_reducible exact ⟨ce0, ce1⟩)) (first | (go_at_call 9; refine (hfh _).mono ?_; rintro e wz ⟨rfl, gz⟩; have KZ : Kp W wz := Kp.trans (Kp.drew (Kp.refl _)) gz; have cz0 := kkeep KZ y0; have cz1 := kkeep KZ y1) | (go_at_call_of 11 (Value.float .f64 HI); refine (hn3 _).mono ?_; rintro e w3 ⟨s, p, l, c, q, k, d, rfl, hp, g3⟩; have K0 : Kp W w3 := Kp.trans KZ g3; have ca0 := kkeep K0 y0; have ca1 := kkeep K0 y1) | (go_at_call_of 10 (Value.slice p l c); refine (hh3 _ s p l c q k d hp).mono ?_; rintro e w4 ⟨rfl, g4⟩; have K1 : Kp W w4 := Kp.trans K0 g4; have cb0 := kkeep K1 y0; have cb1 := kkeep K1 y1) | (go_at_call_of 11 (Value.float .f64 HN); refine (hn4 _).mono ?_; rintro e w5 ⟨s2, p2, l2, c2, q2, k2, d2, rfl, hp2, g5⟩; have K2 : Kp W w5 := Kp.trans K1 g5; have cc0 := kkeep K2 y0; have cc1 := kkeep K2 y1) | (go_at_call_of 10 (Value.slice p2 l2 c2); refine (hh4 _ s2 p2 l2 c2 q2 k2 d2 hp2).mono ?_; rintro e w6 ⟨rfl, g6⟩; have K3 : Kp W w6 := Kp.trans K2 g6; have ce0 := kkeep K3 y0; have ce1 := kkeep K3 y1)) | fail
      all_goals go_wp2_with fail
      all_goals (
        go_meet
        exact ⟨rfl, K3⟩)
  case rest =>
  obtain ⟨rfl, gc⟩ := hcut
  replace sx := Fq.H2.keep sx gc
  replace sv := H3c.keep sv gc
  replace sy := Fq.H2.keep sy gc
  replace hz := hkr _ _ gc hz
  replace kW := Kp.trans kW gc
  clear gc
  generalize wc = W at sx sv sy hz kW ⊢
  obtain ⟨x0, x1, x2, x3⟩ := id sx; obtain ⟨v0, v1, v2, v3, v4, v5⟩ := id sv
  go_wp2_with (first | (go_at_call 12; refine (hno _ hz).mono ?_; rintro e wn ⟨pn, cn, rfl, gn⟩; replace sx := Fq.H2.keep sx gn; replace sv := H3c.keep sv gn; replace sy := Fq.H2.keep sy gn; replace hz := hkr _ _ gn hz; replace kW := Kp.trans kW gn; clear gn x0 x1 x2 x3 v0 v1 v2 v3 v4 v5; obtain ⟨x0, x1, x2, x3⟩ := id sx; obtain ⟨v0, v1, v2, v3, v4, v5⟩ := id sv; obtain ⟨y0, y1, y2, y3⟩ := id sy) | (go_at_call 10; refine (hv _ hz).mono ?_; rintro e wn ⟨rfl, gn⟩; replace sx := Fq.H2.keep sx gn; replace sv := H3c.keep sv gn; replace sy := Fq.H2.keep sy gn; replace hz := hkr _ _ gn hz; replace kW := Kp.trans kW gn; clear gn y0 y1 y2 y3 x0 x1 x2 x3 v0 v1 v2 v3 v4 v5; obtain ⟨x0, x1, x2, x3⟩ := id sx; obtain ⟨v0, v1, v2, v3, v4, v5⟩ := id sv; obtain ⟨y0, y1, y2, y3⟩ := id sy))
  exact bodyPost_ret (v := .bool true) (by simp [results, Try.results3, go_sem]) rfl ⟨rfl, kW⟩
end Go.Proofs.Ytolghomhigemgaa
