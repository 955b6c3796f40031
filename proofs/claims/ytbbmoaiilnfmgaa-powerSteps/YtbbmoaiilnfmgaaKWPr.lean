import Derived.Test.YtbbmoaiilnfmgaaKIMs
import Derived.Test.YtbbmoaiilnfmgaaKWPf
import Derived.Test.YtbbmoaiilnfmgaaKWPg
import Derived.Test.YtbbmoaiilnfmgaaKWPh
import Derived.Test.YtbbmoaiilnfmgaaKWPi
namespace Go.Proofs.Ytbbmoaiilnfmgaa
open Go.RowKit
set_option linter.unusedVariables false
set_option maxRecDepth 20000 in
set_option maxHeartbeats 400000 in
theorem xp5m0_ (V : Int) (C N : Nat) (hN : N ≤ 20000) (s : Bool) (p : Option Addr) (l c : Nat) (q : Option Addr) (k d : Nat) (B1 : Nat) (w : World) (h : XP B1 w s p l c q k d V C N) (ng : ¬ V < 0) (cc : 2 * (V.natAbs % C) < C) (hb : V.natAbs / C % 2 = 0) : Calls Try.prog 32 #[.int .i64 5, .agg #[.bool s, .slice p l c, .slice q k d]] w fun e w' => ∃ (s3 : Bool) (p3 : Option Addr) (l3 c3 : Nat) (q3 : Option Addr) (k3 d3 : Nat), e = .returned (.agg #[.bool s3, .slice p3 l3 c3, .slice q3 k3 d3]) ∧ XP w.heap.size w' s3 p3 l3 c3 q3 k3 d3 (stV 5 C V) C (5 * N + 4000) ∧ Kp w w' := by
  have hc : C ≠ 0 := by obtain ⟨a, b, -, -, hx⟩ := h; exact hx.2.1
  obtain ⟨A, rfl⟩ : ∃ A : Nat, V = (A : Int) := ⟨V.toNat, by omega⟩
  have eN : (A : Int).natAbs = A := by omega
  rw [eN] at cc hb
  have eQ : (A : Int) / (C : Int) = ((A / C : Nat) : Int) := rfl
  have eD : (A : Int) = (C : Int) * ((A / C : Nat) : Int) + ((A % C : Nat) : Int) := by rw [← Int.natCast_mul, ← Int.natCast_add, Nat.div_add_mod]
  have eR : (A : Int) * ((1 : Nat) : Int) - (A : Int) / (C : Int) * (C : Int) = ((A % C : Nat) : Int) := by
    rw [eQ, Int.mul_comm ((A / C : Nat) : Int)]
    have e1 : (A : Int) * ((1 : Nat) : Int) = (A : Int) := by simp
    rw [e1]; omega
  have hbm : bmp 5 false (A / C) (A % C) C = false := by unfold bmp upw; simp <;> omega
  have eS : stV 5 C (A : Int) = ((A / C + 0 : Nat) : Int) * (C : Int) := by
    unfold stV cutN
    rw [if_neg (by decide), if_neg (by omega), eN, hbm, Int.natCast_mul]; rfl
  have ecm : cmI (((A : Int) * ((1 : Nat) : Int) - (A : Int) / (C : Int) * (C : Int)) * ((2 : Nat) : Int)) (1 * ((C * 1 : Nat) : Int)) = -1 := by
    rw [eR]
    have cc' := cc
    clear eD eR eS hbm eQ h hb
    obtain ⟨r, hr⟩ : ∃ r, r = A % C := ⟨_, rfl⟩
    rw [← hr] at cc' ⊢
    clear hr cc
    have e2 : ((C * 1 : Nat) : Int) = (C : Int) := by rw [Nat.mul_one]
    have e3 : ((2 : Nat) : Int) = 2 := rfl
    rw [e2, e3]
    unfold cmI; rw [if_pos (by omega)]
  have sg : ¬ sgV (A : Int) < 0 := by unfold sgV; rw [if_neg ng]; split <;> decide
  have ha : ∀ (B : Nat) (W : World) (s6 : Bool) (p6 : Option Addr) (l6 c6 : Nat) (q6 : Option Addr) (k6 d6 : Nat), FP B W s6 p6 l6 c6 q6 k6 d6 ((A : Int) / (C : Int)) (N + 1) → Ls W (.slice p6 l6 c6) (dig (A / C)) ∧ blen (A / C) ≤ N + 1 := by
    rintro B W s6 p6 l6 c6 q6 k6 d6 ⟨a, o1, o2, e, bl⟩
    have : a = A / C := by
      rw [eQ] at e; unfold rvI at e
      clear hb eQ eD eR hbm eS ecm cc
      generalize A / C = Q at e ⊢
      cases s6
      · rw [if_neg (by decide)] at e; omega
      · rw [if_pos rfl] at e; omega
    subst this
    exact ⟨o1.ls, bl⟩
  refine (stN5m0_ (sgV (A : Int)) sg s p l c q k d (fun w' s6 p6 l6 c6 q6 k6 d6 => FP (w.heap.size + 2) w' s6 p6 l6 c6 q6 k6 d6 ((A : Int) / (C : Int)) (N + 1)) (fun w' s7 p7 l7 c7 q7 k7 d7 => XP 0 w' s7 p7 l7 c7 q7 k7 d7 ((A : Int) * ((1 : Nat) : Int) - (A : Int) / (C : Int) * (C : Int)) (C * 1) (2 * (N + (N + 2)) + 3)) (fun w' s8 p8 l8 c8 q8 k8 d8 => XP 0 w' s8 p8 l8 c8 q8 k8 d8 1 2 20)  w (fun W g => xsign_ _ C N (by omega) s p l c q k d B1 W (h.kp g)) (fun W g gl => ?_) (fun U W s6 p6 l6 c6 q6 k6 d6 g h6 gu => ?_) (fun W => ?_) (fun U W s7 p7 l7 c7 q7 k7 d7 s8 p8 l8 c8 q8 k8 d8 h7 gu h8 => ?_) (fun U W s6 p6 l6 c6 q6 k6 d6 h6 gu => ?_) ).mono ?_
  · refine (floorX_ _ C N (by omega) s p l c q k d B1 W (h.kp g)).mono ?_
    rintro e w' ⟨s6, p6, l6, c6, q6, k6, d6, rfl, hf, g1⟩
    exact ⟨s6, p6, l6, c6, q6, k6, d6, rfl, hf.mono (by omega), g1⟩
  · refine (xsub_ _ _ C 1 N (N + 2) (by omega) s p l c q k d s6 p6 l6 c6 q6 k6 d6 B1 _ W (h.kp g) (h6.kp gu).xp).mono ?_
    rintro e w' ⟨s7, p7, l7, c7, q7, k7, d7, rfl, hp, g1⟩
    exact ⟨s7, p7, l7, c7, q7, k7, d7, rfl, hp.mono (Nat.zero_le _), g1⟩
  · refine (halfX_ W).mono ?_
    rintro e w' ⟨s8, p8, l8, c8, q8, k8, d8, rfl, hp, g1⟩
    exact ⟨s8, p8, l8, c8, q8, k8, d8, rfl, hp.mono (Nat.zero_le _), g1⟩
  · have hx := xcmp_ 0 0 _ _ _ _ _ _ (by omega) (by omega) s7 p7 l7 c7 q7 k7 d7 s8 p8 l8 c8 q8 k8 d8 W (h7.kp gu) h8
    rw [ecm] at hx
    exact hx
  · obtain ⟨z1, z2⟩ := ha _ W s6 p6 l6 c6 q6 k6 d6 (h6.kp gu)
    have hx := bitX_ p6 l6 c6 (A / C) W z1 (by omega)
    rw [hb] at hx
    exact hx
  · rintro e w' ⟨W2, wh, s6, p6, l6, c6, q6, k6, d6, rfl, h6, kk, rfl, g⟩
    have hq := (h6.kp kk).xp.as (stV 5 C (A : Int)) C (5 * N + 4000) hc (by rw [eS, eQ]; simp) (by omega)
    exact ⟨s6, p6, l6, c6, q6, k6, d6, rfl, XP.mono ((((hq).set (x := ⟨w.heap.size + 1, 0, none⟩) (show w.heap.size + 1 < w.heap.size + 2 by omega) (.bool s6)).set (x := ⟨w.heap.size + 1, 1, none⟩) (show w.heap.size + 1 < w.heap.size + 2 by omega) (.slice p6 l6 c6)).set (x := ⟨w.heap.size + 1, 2, none⟩) (show w.heap.size + 1 < w.heap.size + 2 by omega) (.slice q6 k6 d6)) (by omega), (((g).setCell (by simp) _).setCell (by simp) _).setCell (by simp) _⟩
set_option maxRecDepth 20000 in
set_option maxHeartbeats 400000 in
theorem xp500_ (V : Int) (C N : Nat) (hN : N ≤ 20000) (s : Bool) (p : Option Addr) (l c : Nat) (q : Option Addr) (k d : Nat) (B1 : Nat) (w : World) (h : XP B1 w s p l c q k d V C N) (ng : ¬ V < 0) (cc : 2 * (V.natAbs % C) = C) (hb : V.natAbs / C % 2 = 0) : Calls Try.prog 32 #[.int .i64 5, .agg #[.bool s, .slice p l c, .slice q k d]] w fun e w' => ∃ (s3 : Bool) (p3 : Option Addr) (l3 c3 : Nat) (q3 : Option Addr) (k3 d3 : Nat), e = .returned (.agg #[.bool s3, .slice p3 l3 c3, .slice q3 k3 d3]) ∧ XP w.heap.size w' s3 p3 l3 c3 q3 k3 d3 (stV 5 C V) C (5 * N + 4000) ∧ Kp w w' := by
  have hc : C ≠ 0 := by obtain ⟨a, b, -, -, hx⟩ := h; exact hx.2.1
  obtain ⟨A, rfl⟩ : ∃ A : Nat, V = (A : Int) := ⟨V.toNat, by omega⟩
  have eN : (A : Int).natAbs = A := by omega
  rw [eN] at cc hb
  have eQ : (A : Int) / (C : Int) = ((A / C : Nat) : Int) := rfl
  have eD : (A : Int) = (C : Int) * ((A / C : Nat) : Int) + ((A % C : Nat) : Int) := by rw [← Int.natCast_mul, ← Int.natCast_add, Nat.div_add_mod]
  have eR : (A : Int) * ((1 : Nat) : Int) - (A : Int) / (C : Int) * (C : Int) = ((A % C : Nat) : Int) := by
    rw [eQ, Int.mul_comm ((A / C : Nat) : Int)]
    have e1 : (A : Int) * ((1 : Nat) : Int) = (A : Int) := by simp
    rw [e1]; omega
  have hbm : bmp 5 false (A / C) (A % C) C = true := by unfold bmp upw; simp <;> omega
  have eS : stV 5 C (A : Int) = ((A / C + 1 : Nat) : Int) * (C : Int) := by
    unfold stV cutN
    rw [if_neg (by decide), if_neg (by omega), eN, hbm, Int.natCast_mul]; rfl
  have ecm : cmI (((A : Int) * ((1 : Nat) : Int) - (A : Int) / (C : Int) * (C : Int)) * ((2 : Nat) : Int)) (1 * ((C * 1 : Nat) : Int)) = 0 := by
    rw [eR]
    have cc' := cc
    clear eD eR eS hbm eQ h hb
    obtain ⟨r, hr⟩ : ∃ r, r = A % C := ⟨_, rfl⟩
    rw [← hr] at cc' ⊢
    clear hr cc
    have e2 : ((C * 1 : Nat) : Int) = (C : Int) := by rw [Nat.mul_one]
    have e3 : ((2 : Nat) : Int) = 2 := rfl
    rw [e2, e3]
    unfold cmI; rw [if_neg (by omega), if_neg (by omega)]
  have sg : ¬ sgV (A : Int) < 0 := by unfold sgV; rw [if_neg ng]; split <;> decide
  have ha : ∀ (B : Nat) (W : World) (s6 : Bool) (p6 : Option Addr) (l6 c6 : Nat) (q6 : Option Addr) (k6 d6 : Nat), FP B W s6 p6 l6 c6 q6 k6 d6 ((A : Int) / (C : Int)) (N + 1) → Ls W (.slice p6 l6 c6) (dig (A / C)) ∧ blen (A / C) ≤ N + 1 := by
    rintro B W s6 p6 l6 c6 q6 k6 d6 ⟨a, o1, o2, e, bl⟩
    have : a = A / C := by
      rw [eQ] at e; unfold rvI at e
      clear hb eQ eD eR hbm eS ecm cc
      generalize A / C = Q at e ⊢
      cases s6
      · rw [if_neg (by decide)] at e; omega
      · rw [if_pos rfl] at e; omega
    subst this
    exact ⟨o1.ls, bl⟩
  refine (stN500_ (sgV (A : Int)) sg s p l c q k d (fun w' s6 p6 l6 c6 q6 k6 d6 => FP (w.heap.size + 2) w' s6 p6 l6 c6 q6 k6 d6 ((A : Int) / (C : Int)) (N + 1)) (fun w' s7 p7 l7 c7 q7 k7 d7 => XP 0 w' s7 p7 l7 c7 q7 k7 d7 ((A : Int) * ((1 : Nat) : Int) - (A : Int) / (C : Int) * (C : Int)) (C * 1) (2 * (N + (N + 2)) + 3)) (fun w' s8 p8 l8 c8 q8 k8 d8 => XP 0 w' s8 p8 l8 c8 q8 k8 d8 1 2 20) (fun w' s9 p9 l9 c9 q9 k9 d9 => XP 0 w' s9 p9 l9 c9 q9 k9 d9 1 1 1500) (fun W w' s3 p3 l3 c3 q3 k3 d3 => XP W.heap.size w' s3 p3 l3 c3 q3 k3 d3 (stV 5 C (A : Int)) C (5 * N + 4000)) w (fun W g => xsign_ _ C N (by omega) s p l c q k d B1 W (h.kp g)) (fun W g gl => ?_) (fun U W s6 p6 l6 c6 q6 k6 d6 g h6 gu => ?_) (fun W => ?_) (fun U W s7 p7 l7 c7 q7 k7 d7 s8 p8 l8 c8 q8 k8 d8 h7 gu h8 => ?_) (fun U W s6 p6 l6 c6 q6 k6 d6 h6 gu => ?_) (fun W g => ?_) (fun U W s6 p6 l6 c6 q6 k6 d6 s9 p9 l9 c9 q9 k9 d9 h6 gu h9 => ?_)).mono ?_
  · refine (floorX_ _ C N (by omega) s p l c q k d B1 W (h.kp g)).mono ?_
    rintro e w' ⟨s6, p6, l6, c6, q6, k6, d6, rfl, hf, g1⟩
    exact ⟨s6, p6, l6, c6, q6, k6, d6, rfl, hf.mono (by omega), g1⟩
  · refine (xsub_ _ _ C 1 N (N + 2) (by omega) s p l c q k d s6 p6 l6 c6 q6 k6 d6 B1 _ W (h.kp g) (h6.kp gu).xp).mono ?_
    rintro e w' ⟨s7, p7, l7, c7, q7, k7, d7, rfl, hp, g1⟩
    exact ⟨s7, p7, l7, c7, q7, k7, d7, rfl, hp.mono (Nat.zero_le _), g1⟩
  · refine (halfX_ W).mono ?_
    rintro e w' ⟨s8, p8, l8, c8, q8, k8, d8, rfl, hp, g1⟩
    exact ⟨s8, p8, l8, c8, q8, k8, d8, rfl, hp.mono (Nat.zero_le _), g1⟩
  · have hx := xcmp_ 0 0 _ _ _ _ _ _ (by omega) (by omega) s7 p7 l7 c7 q7 k7 d7 s8 p8 l8 c8 q8 k8 d8 W (h7.kp gu) h8
    rw [ecm] at hx
    exact hx
  · obtain ⟨z1, z2⟩ := ha _ W s6 p6 l6 c6 q6 k6 d6 (h6.kp gu)
    have hx := bitX_ p6 l6 c6 (A / C) W z1 (by omega)
    rw [hb] at hx
    exact hx
  · refine (int1X_ W).mono ?_
    rintro e w' ⟨s9, p9, l9, c9, q9, k9, d9, rfl, hp, g1⟩
    exact ⟨s9, p9, l9, c9, q9, k9, d9, rfl, hp.mono (Nat.zero_le _), g1⟩
  · refine (xadd_ _ _ 1 1 (N + 2) 1500 (by omega) s6 p6 l6 c6 q6 k6 d6 s9 p9 l9 c9 q9 k9 d9 _ 0 W (h6.kp gu).xp h9).mono ?_
    rintro e w' ⟨s3, p3, l3, c3, q3, k3, d3, rfl, hp, g1⟩
    exact ⟨s3, p3, l3, c3, q3, k3, d3, rfl, hp.as _ C _ hc (by rw [eS, eQ]; simp) (by omega), g1⟩
  · rintro e w' ⟨W, W2, b, s3, p3, l3, c3, q3, k3, d3, rfl, hq, rfl, u1, u2, u3, g⟩
    exact ⟨s3, p3, l3, c3, q3, k3, d3, rfl, XP.mono ((((((((hq).set (x := ⟨b, 0, none⟩) u2 (.bool s3)).set (x := ⟨b, 1, none⟩) u2 (.slice p3 l3 c3)).set (x := ⟨b, 2, none⟩) u2 (.slice q3 k3 d3))).set (x := ⟨w.heap.size + 1, 0, none⟩) u1 (.bool s3)).set (x := ⟨w.heap.size + 1, 1, none⟩) u1 (.slice p3 l3 c3)).set (x := ⟨w.heap.size + 1, 2, none⟩) u1 (.slice q3 k3 d3)) (by omega), (((((((g).setCell (by simp <;> omega) _).setCell (by simp <;> omega) _).setCell (by simp <;> omega) _)).setCell (by simp) _).setCell (by simp) _).setCell (by simp) _⟩
set_option maxRecDepth 20000 in
set_option maxHeartbeats 400000 in
theorem xp510_ (V : Int) (C N : Nat) (hN : N ≤ 20000) (s : Bool) (p : Option Addr) (l c : Nat) (q : Option Addr) (k d : Nat) (B1 : Nat) (w : World) (h : XP B1 w s p l c q k d V C N) (ng : ¬ V < 0) (cc : C < 2 * (V.natAbs % C)) (hb : V.natAbs / C % 2 = 0) : Calls Try.prog 32 #[.int .i64 5, .agg #[.bool s, .slice p l c, .slice q k d]] w fun e w' => ∃ (s3 : Bool) (p3 : Option Addr) (l3 c3 : Nat) (q3 : Option Addr) (k3 d3 : Nat), e = .returned (.agg #[.bool s3, .slice p3 l3 c3, .slice q3 k3 d3]) ∧ XP w.heap.size w' s3 p3 l3 c3 q3 k3 d3 (stV 5 C V) C (5 * N + 4000) ∧ Kp w w' := by
  have hc : C ≠ 0 := by obtain ⟨a, b, -, -, hx⟩ := h; exact hx.2.1
  obtain ⟨A, rfl⟩ : ∃ A : Nat, V = (A : Int) := ⟨V.toNat, by omega⟩
  have eN : (A : Int).natAbs = A := by omega
  rw [eN] at cc hb
  have eQ : (A : Int) / (C : Int) = ((A / C : Nat) : Int) := rfl
  have eD : (A : Int) = (C : Int) * ((A / C : Nat) : Int) + ((A % C : Nat) : Int) := by rw [← Int.natCast_mul, ← Int.natCast_add, Nat.div_add_mod]
  have eR : (A : Int) * ((1 : Nat) : Int) - (A : Int) / (C : Int) * (C : Int) = ((A % C : Nat) : Int) := by
    rw [eQ, Int.mul_comm ((A / C : Nat) : Int)]
    have e1 : (A : Int) * ((1 : Nat) : Int) = (A : Int) := by simp
    rw [e1]; omega
  have hbm : bmp 5 false (A / C) (A % C) C = true := by unfold bmp upw; simp <;> omega
  have eS : stV 5 C (A : Int) = ((A / C + 1 : Nat) : Int) * (C : Int) := by
    unfold stV cutN
    rw [if_neg (by decide), if_neg (by omega), eN, hbm, Int.natCast_mul]; rfl
  have ecm : cmI (((A : Int) * ((1 : Nat) : Int) - (A : Int) / (C : Int) * (C : Int)) * ((2 : Nat) : Int)) (1 * ((C * 1 : Nat) : Int)) = 1 := by
    rw [eR]
    have cc' := cc
    clear eD eR eS hbm eQ h hb
    obtain ⟨r, hr⟩ : ∃ r, r = A % C := ⟨_, rfl⟩
    rw [← hr] at cc' ⊢
    clear hr cc
    have e2 : ((C * 1 : Nat) : Int) = (C : Int) := by rw [Nat.mul_one]
    have e3 : ((2 : Nat) : Int) = 2 := rfl
    rw [e2, e3]
    unfold cmI; rw [if_neg (by omega), if_pos (by omega)]
  have sg : ¬ sgV (A : Int) < 0 := by unfold sgV; rw [if_neg ng]; split <;> decide
  have ha : ∀ (B : Nat) (W : World) (s6 : Bool) (p6 : Option Addr) (l6 c6 : Nat) (q6 : Option Addr) (k6 d6 : Nat), FP B W s6 p6 l6 c6 q6 k6 d6 ((A : Int) / (C : Int)) (N + 1) → Ls W (.slice p6 l6 c6) (dig (A / C)) ∧ blen (A / C) ≤ N + 1 := by
    rintro B W s6 p6 l6 c6 q6 k6 d6 ⟨a, o1, o2, e, bl⟩
    have : a = A / C := by
      rw [eQ] at e; unfold rvI at e
      clear hb eQ eD eR hbm eS ecm cc
      generalize A / C = Q at e ⊢
      cases s6
      · rw [if_neg (by decide)] at e; omega
      · rw [if_pos rfl] at e; omega
    subst this
    exact ⟨o1.ls, bl⟩
  refine (stN510_ (sgV (A : Int)) sg s p l c q k d (fun w' s6 p6 l6 c6 q6 k6 d6 => FP (w.heap.size + 2) w' s6 p6 l6 c6 q6 k6 d6 ((A : Int) / (C : Int)) (N + 1)) (fun w' s7 p7 l7 c7 q7 k7 d7 => XP 0 w' s7 p7 l7 c7 q7 k7 d7 ((A : Int) * ((1 : Nat) : Int) - (A : Int) / (C : Int) * (C : Int)) (C * 1) (2 * (N + (N + 2)) + 3)) (fun w' s8 p8 l8 c8 q8 k8 d8 => XP 0 w' s8 p8 l8 c8 q8 k8 d8 1 2 20) (fun w' s9 p9 l9 c9 q9 k9 d9 => XP 0 w' s9 p9 l9 c9 q9 k9 d9 1 1 1500) (fun W w' s3 p3 l3 c3 q3 k3 d3 => XP W.heap.size w' s3 p3 l3 c3 q3 k3 d3 (stV 5 C (A : Int)) C (5 * N + 4000)) w (fun W g => xsign_ _ C N (by omega) s p l c q k d B1 W (h.kp g)) (fun W g gl => ?_) (fun U W s6 p6 l6 c6 q6 k6 d6 g h6 gu => ?_) (fun W => ?_) (fun U W s7 p7 l7 c7 q7 k7 d7 s8 p8 l8 c8 q8 k8 d8 h7 gu h8 => ?_) (fun U W s6 p6 l6 c6 q6 k6 d6 h6 gu => ?_) (fun W g => ?_) (fun U W s6 p6 l6 c6 q6 k6 d6 s9 p9 l9 c9 q9 k9 d9 h6 gu h9 => ?_)).mono ?_
  · refine (floorX_ _ C N (by omega) s p l c q k d B1 W (h.kp g)).mono ?_
    rintro e w' ⟨s6, p6, l6, c6, q6, k6, d6, rfl, hf, g1⟩
    exact ⟨s6, p6, l6, c6, q6, k6, d6, rfl, hf.mono (by omega), g1⟩
  · refine (xsub_ _ _ C 1 N (N + 2) (by omega) s p l c q k d s6 p6 l6 c6 q6 k6 d6 B1 _ W (h.kp g) (h6.kp gu).xp).mono ?_
    rintro e w' ⟨s7, p7, l7, c7, q7, k7, d7, rfl, hp, g1⟩
    exact ⟨s7, p7, l7, c7, q7, k7, d7, rfl, hp.mono (Nat.zero_le _), g1⟩
  · refine (halfX_ W).mono ?_
    rintro e w' ⟨s8, p8, l8, c8, q8, k8, d8, rfl, hp, g1⟩
    exact ⟨s8, p8, l8, c8, q8, k8, d8, rfl, hp.mono (Nat.zero_le _), g1⟩
  · have hx := xcmp_ 0 0 _ _ _ _ _ _ (by omega) (by omega) s7 p7 l7 c7 q7 k7 d7 s8 p8 l8 c8 q8 k8 d8 W (h7.kp gu) h8
    rw [ecm] at hx
    exact hx
  · obtain ⟨z1, z2⟩ := ha _ W s6 p6 l6 c6 q6 k6 d6 (h6.kp gu)
    have hx := bitX_ p6 l6 c6 (A / C) W z1 (by omega)
    rw [hb] at hx
    exact hx
  · refine (int1X_ W).mono ?_
    rintro e w' ⟨s9, p9, l9, c9, q9, k9, d9, rfl, hp, g1⟩
    exact ⟨s9, p9, l9, c9, q9, k9, d9, rfl, hp.mono (Nat.zero_le _), g1⟩
  · refine (xadd_ _ _ 1 1 (N + 2) 1500 (by omega) s6 p6 l6 c6 q6 k6 d6 s9 p9 l9 c9 q9 k9 d9 _ 0 W (h6.kp gu).xp h9).mono ?_
    rintro e w' ⟨s3, p3, l3, c3, q3, k3, d3, rfl, hp, g1⟩
    exact ⟨s3, p3, l3, c3, q3, k3, d3, rfl, hp.as _ C _ hc (by rw [eS, eQ]; simp) (by omega), g1⟩
  · rintro e w' ⟨W, W2, b, s3, p3, l3, c3, q3, k3, d3, rfl, hq, rfl, u1, u2, u3, g⟩
    exact ⟨s3, p3, l3, c3, q3, k3, d3, rfl, XP.mono ((((((((hq).set (x := ⟨b, 0, none⟩) u2 (.bool s3)).set (x := ⟨b, 1, none⟩) u2 (.slice p3 l3 c3)).set (x := ⟨b, 2, none⟩) u2 (.slice q3 k3 d3))).set (x := ⟨w.heap.size + 1, 0, none⟩) u1 (.bool s3)).set (x := ⟨w.heap.size + 1, 1, none⟩) u1 (.slice p3 l3 c3)).set (x := ⟨w.heap.size + 1, 2, none⟩) u1 (.slice q3 k3 d3)) (by omega), (((((((g).setCell (by simp <;> omega) _).setCell (by simp <;> omega) _).setCell (by simp <;> omega) _)).setCell (by simp) _).setCell (by simp) _).setCell (by simp) _⟩
set_option linter.unusedVariables false
set_option maxRecDepth 20000 in
set_option maxHeartbeats 400000 in
theorem xp5m1_ (V : Int) (C N : Nat) (hN : N ≤ 20000) (s : Bool) (p : Option Addr) (l c : Nat) (q : Option Addr) (k d : Nat) (B1 : Nat) (w : World) (h : XP B1 w s p l c q k d V C N) (ng : ¬ V < 0) (cc : 2 * (V.natAbs % C) < C) (hb : V.natAbs / C % 2 = 1) : Calls Try.prog 32 #[.int .i64 5, .agg #[.bool s, .slice p l c, .slice q k d]] w fun e w' => ∃ (s3 : Bool) (p3 : Option Addr) (l3 c3 : Nat) (q3 : Option Addr) (k3 d3 : Nat), e = .returned (.agg #[.bool s3, .slice p3 l3 c3, .slice q3 k3 d3]) ∧ XP w.heap.size w' s3 p3 l3 c3 q3 k3 d3 (stV 5 C V) C (5 * N + 4000) ∧ Kp w w' := by
  have hc : C ≠ 0 := by obtain ⟨a, b, -, -, hx⟩ := h; exact hx.2.1
  obtain ⟨A, rfl⟩ : ∃ A : Nat, V = (A : Int) := ⟨V.toNat, by omega⟩
  have eN : (A : Int).natAbs = A := by omega
  rw [eN] at cc hb
  have eQ : (A : Int) / (C : Int) = ((A / C : Nat) : Int) := rfl
  have eD : (A : Int) = (C : Int) * ((A / C : Nat) : Int) + ((A % C : Nat) : Int) := by rw [← Int.natCast_mul, ← Int.natCast_add, Nat.div_add_mod]
  have eR : (A : Int) * ((1 : Nat) : Int) - (A : Int) / (C : Int) * (C : Int) = ((A % C : Nat) : Int) := by
    rw [eQ, Int.mul_comm ((A / C : Nat) : Int)]
    have e1 : (A : Int) * ((1 : Nat) : Int) = (A : Int) := by simp
    rw [e1]; omega
  have hbm : bmp 5 false (A / C) (A % C) C = false := by unfold bmp upw; simp <;> omega
  have eS : stV 5 C (A : Int) = ((A / C + 0 : Nat) : Int) * (C : Int) := by
    unfold stV cutN
    rw [if_neg (by decide), if_neg (by omega), eN, hbm, Int.natCast_mul]; rfl
  have ecm : cmI (((A : Int) * ((1 : Nat) : Int) - (A : Int) / (C : Int) * (C : Int)) * ((2 : Nat) : Int)) (1 * ((C * 1 : Nat) : Int)) = -1 := by
    rw [eR]
    have cc' := cc
    clear eD eR eS hbm eQ h hb
    obtain ⟨r, hr⟩ : ∃ r, r = A % C := ⟨_, rfl⟩
    rw [← hr] at cc' ⊢
    clear hr cc
    have e2 : ((C * 1 : Nat) : Int) = (C : Int) := by rw [Nat.mul_one]
    have e3 : ((2 : Nat) : Int) = 2 := rfl
    rw [e2, e3]
    unfold cmI; rw [if_pos (by omega)]
  have sg : ¬ sgV (A : Int) < 0 := by unfold sgV; rw [if_neg ng]; split <;> decide
  have ha : ∀ (B : Nat) (W : World) (s6 : Bool) (p6 : Option Addr) (l6 c6 : Nat) (q6 : Option Addr) (k6 d6 : Nat), FP B W s6 p6 l6 c6 q6 k6 d6 ((A : Int) / (C : Int)) (N + 1) → Ls W (.slice p6 l6 c6) (dig (A / C)) ∧ blen (A / C) ≤ N + 1 := by
    rintro B W s6 p6 l6 c6 q6 k6 d6 ⟨a, o1, o2, e, bl⟩
    have : a = A / C := by
      rw [eQ] at e; unfold rvI at e
      clear hb eQ eD eR hbm eS ecm cc
      generalize A / C = Q at e ⊢
      cases s6
      · rw [if_neg (by decide)] at e; omega
      · rw [if_pos rfl] at e; omega
    subst this
    exact ⟨o1.ls, bl⟩
  refine (stN5m1_ (sgV (A : Int)) sg (blen (A / C) : Int) (by have := blen_spec (A / C) (by intro z; rw [z] at hb; simp at hb); omega) s p l c q k d (fun w' s6 p6 l6 c6 q6 k6 d6 => FP (w.heap.size + 2) w' s6 p6 l6 c6 q6 k6 d6 ((A : Int) / (C : Int)) (N + 1)) (fun w' s7 p7 l7 c7 q7 k7 d7 => XP 0 w' s7 p7 l7 c7 q7 k7 d7 ((A : Int) * ((1 : Nat) : Int) - (A : Int) / (C : Int) * (C : Int)) (C * 1) (2 * (N + (N + 2)) + 3)) (fun w' s8 p8 l8 c8 q8 k8 d8 => XP 0 w' s8 p8 l8 c8 q8 k8 d8 1 2 20)  w (fun W g => xsign_ _ C N (by omega) s p l c q k d B1 W (h.kp g)) (fun W g gl => ?_) (fun U W s6 p6 l6 c6 q6 k6 d6 g h6 gu => ?_) (fun W => ?_) (fun U W s7 p7 l7 c7 q7 k7 d7 s8 p8 l8 c8 q8 k8 d8 h7 gu h8 => ?_) (fun U W s6 p6 l6 c6 q6 k6 d6 h6 gu => ?_) (fun U W s6 p6 l6 c6 q6 k6 d6 h6 gu => ?_) ).mono ?_
  · refine (floorX_ _ C N (by omega) s p l c q k d B1 W (h.kp g)).mono ?_
    rintro e w' ⟨s6, p6, l6, c6, q6, k6, d6, rfl, hf, g1⟩
    exact ⟨s6, p6, l6, c6, q6, k6, d6, rfl, hf.mono (by omega), g1⟩
  · refine (xsub_ _ _ C 1 N (N + 2) (by omega) s p l c q k d s6 p6 l6 c6 q6 k6 d6 B1 _ W (h.kp g) (h6.kp gu).xp).mono ?_
    rintro e w' ⟨s7, p7, l7, c7, q7, k7, d7, rfl, hp, g1⟩
    exact ⟨s7, p7, l7, c7, q7, k7, d7, rfl, hp.mono (Nat.zero_le _), g1⟩
  · refine (halfX_ W).mono ?_
    rintro e w' ⟨s8, p8, l8, c8, q8, k8, d8, rfl, hp, g1⟩
    exact ⟨s8, p8, l8, c8, q8, k8, d8, rfl, hp.mono (Nat.zero_le _), g1⟩
  · have hx := xcmp_ 0 0 _ _ _ _ _ _ (by omega) (by omega) s7 p7 l7 c7 q7 k7 d7 s8 p8 l8 c8 q8 k8 d8 W (h7.kp gu) h8
    rw [ecm] at hx
    exact hx
  · obtain ⟨z1, z2⟩ := ha _ W s6 p6 l6 c6 q6 k6 d6 (h6.kp gu)
    have hx := bitX_ p6 l6 c6 (A / C) W z1 (by omega)
    rw [hb] at hx
    exact hx
  · obtain ⟨z1, z2⟩ := ha _ W s6 p6 l6 c6 q6 k6 d6 (h6.kp gu)
    refine (lenR _ (A / C) W z1 (by omega)).mono ?_
    rintro e w' ⟨rfl, rfl⟩
    exact ⟨rfl, Kp.refl _⟩
  · rintro e w' ⟨W2, wh, s6, p6, l6, c6, q6, k6, d6, rfl, h6, kk, rfl, g⟩
    have hq := (h6.kp kk).xp.as (stV 5 C (A : Int)) C (5 * N + 4000) hc (by rw [eS, eQ]; simp) (by omega)
    exact ⟨s6, p6, l6, c6, q6, k6, d6, rfl, XP.mono ((((hq).set (x := ⟨w.heap.size + 1, 0, none⟩) (show w.heap.size + 1 < w.heap.size + 2 by omega) (.bool s6)).set (x := ⟨w.heap.size + 1, 1, none⟩) (show w.heap.size + 1 < w.heap.size + 2 by omega) (.slice p6 l6 c6)).set (x := ⟨w.heap.size + 1, 2, none⟩) (show w.heap.size + 1 < w.heap.size + 2 by omega) (.slice q6 k6 d6)) (by omega), (((g).setCell (by simp) _).setCell (by simp) _).setCell (by simp) _⟩
set_option maxRecDepth 20000 in
set_option maxHeartbeats 400000 in
theorem xp501_ (V : Int) (C N : Nat) (hN : N ≤ 20000) (s : Bool) (p : Option Addr) (l c : Nat) (q : Option Addr) (k d : Nat) (B1 : Nat) (w : World) (h : XP B1 w s p l c q k d V C N) (ng : ¬ V < 0) (cc : 2 * (V.natAbs % C) = C) (hb : V.natAbs / C % 2 = 1) : Calls Try.prog 32 #[.int .i64 5, .agg #[.bool s, .slice p l c, .slice q k d]] w fun e w' => ∃ (s3 : Bool) (p3 : Option Addr) (l3 c3 : Nat) (q3 : Option Addr) (k3 d3 : Nat), e = .returned (.agg #[.bool s3, .slice p3 l3 c3, .slice q3 k3 d3]) ∧ XP w.heap.size w' s3 p3 l3 c3 q3 k3 d3 (stV 5 C V) C (5 * N + 4000) ∧ Kp w w' := by
  have hc : C ≠ 0 := by obtain ⟨a, b, -, -, hx⟩ := h; exact hx.2.1
  obtain ⟨A, rfl⟩ : ∃ A : Nat, V = (A : Int) := ⟨V.toNat, by omega⟩
  have eN : (A : Int).natAbs = A := by omega
  rw [eN] at cc hb
  have eQ : (A : Int) / (C : Int) = ((A / C : Nat) : Int) := rfl
  have eD : (A : Int) = (C : Int) * ((A / C : Nat) : Int) + ((A % C : Nat) : Int) := by rw [← Int.natCast_mul, ← Int.natCast_add, Nat.div_add_mod]
  have eR : (A : Int) * ((1 : Nat) : Int) - (A : Int) / (C : Int) * (C : Int) = ((A % C : Nat) : Int) := by
    rw [eQ, Int.mul_comm ((A / C : Nat) : Int)]
    have e1 : (A : Int) * ((1 : Nat) : Int) = (A : Int) := by simp
    rw [e1]; omega
  have hbm : bmp 5 false (A / C) (A % C) C = true := by unfold bmp upw; simp <;> omega
  have eS : stV 5 C (A : Int) = ((A / C + 1 : Nat) : Int) * (C : Int) := by
    unfold stV cutN
    rw [if_neg (by decide), if_neg (by omega), eN, hbm, Int.natCast_mul]; rfl
  have ecm : cmI (((A : Int) * ((1 : Nat) : Int) - (A : Int) / (C : Int) * (C : Int)) * ((2 : Nat) : Int)) (1 * ((C * 1 : Nat) : Int)) = 0 := by
    rw [eR]
    have cc' := cc
    clear eD eR eS hbm eQ h hb
    obtain ⟨r, hr⟩ : ∃ r, r = A % C := ⟨_, rfl⟩
    rw [← hr] at cc' ⊢
    clear hr cc
    have e2 : ((C * 1 : Nat) : Int) = (C : Int) := by rw [Nat.mul_one]
    have e3 : ((2 : Nat) : Int) = 2 := rfl
    rw [e2, e3]
    unfold cmI; rw [if_neg (by omega), if_neg (by omega)]
  have sg : ¬ sgV (A : Int) < 0 := by unfold sgV; rw [if_neg ng]; split <;> decide
  have ha : ∀ (B : Nat) (W : World) (s6 : Bool) (p6 : Option Addr) (l6 c6 : Nat) (q6 : Option Addr) (k6 d6 : Nat), FP B W s6 p6 l6 c6 q6 k6 d6 ((A : Int) / (C : Int)) (N + 1) → Ls W (.slice p6 l6 c6) (dig (A / C)) ∧ blen (A / C) ≤ N + 1 := by
    rintro B W s6 p6 l6 c6 q6 k6 d6 ⟨a, o1, o2, e, bl⟩
    have : a = A / C := by
      rw [eQ] at e; unfold rvI at e
      clear hb eQ eD eR hbm eS ecm cc
      generalize A / C = Q at e ⊢
      cases s6
      · rw [if_neg (by decide)] at e; omega
      · rw [if_pos rfl] at e; omega
    subst this
    exact ⟨o1.ls, bl⟩
  refine (stN501_ (sgV (A : Int)) sg (blen (A / C) : Int) (by have := blen_spec (A / C) (by intro z; rw [z] at hb; simp at hb); omega) s p l c q k d (fun w' s6 p6 l6 c6 q6 k6 d6 => FP (w.heap.size + 2) w' s6 p6 l6 c6 q6 k6 d6 ((A : Int) / (C : Int)) (N + 1)) (fun w' s7 p7 l7 c7 q7 k7 d7 => XP 0 w' s7 p7 l7 c7 q7 k7 d7 ((A : Int) * ((1 : Nat) : Int) - (A : Int) / (C : Int) * (C : Int)) (C * 1) (2 * (N + (N + 2)) + 3)) (fun w' s8 p8 l8 c8 q8 k8 d8 => XP 0 w' s8 p8 l8 c8 q8 k8 d8 1 2 20) (fun w' s9 p9 l9 c9 q9 k9 d9 => XP 0 w' s9 p9 l9 c9 q9 k9 d9 1 1 1500) (fun W w' s3 p3 l3 c3 q3 k3 d3 => XP W.heap.size w' s3 p3 l3 c3 q3 k3 d3 (stV 5 C (A : Int)) C (5 * N + 4000)) w (fun W g => xsign_ _ C N (by omega) s p l c q k d B1 W (h.kp g)) (fun W g gl => ?_) (fun U W s6 p6 l6 c6 q6 k6 d6 g h6 gu => ?_) (fun W => ?_) (fun U W s7 p7 l7 c7 q7 k7 d7 s8 p8 l8 c8 q8 k8 d8 h7 gu h8 => ?_) (fun U W s6 p6 l6 c6 q6 k6 d6 h6 gu => ?_) (fun U W s6 p6 l6 c6 q6 k6 d6 h6 gu => ?_) (fun W g => ?_) (fun U W s6 p6 l6 c6 q6 k6 d6 s9 p9 l9 c9 q9 k9 d9 h6 gu h9 => ?_)).mono ?_
  · refine (floorX_ _ C N (by omega) s p l c q k d B1 W (h.kp g)).mono ?_
    rintro e w' ⟨s6, p6, l6, c6, q6, k6, d6, rfl, hf, g1⟩
    exact ⟨s6, p6, l6, c6, q6, k6, d6, rfl, hf.mono (by omega), g1⟩
  · refine (xsub_ _ _ C 1 N (N + 2) (by omega) s p l c q k d s6 p6 l6 c6 q6 k6 d6 B1 _ W (h.kp g) (h6.kp gu).xp).mono ?_
    rintro e w' ⟨s7, p7, l7, c7, q7, k7, d7, rfl, hp, g1⟩
    exact ⟨s7, p7, l7, c7, q7, k7, d7, rfl, hp.mono (Nat.zero_le _), g1⟩
  · refine (halfX_ W).mono ?_
    rintro e w' ⟨s8, p8, l8, c8, q8, k8, d8, rfl, hp, g1⟩
    exact ⟨s8, p8, l8, c8, q8, k8, d8, rfl, hp.mono (Nat.zero_le _), g1⟩
  · have hx := xcmp_ 0 0 _ _ _ _ _ _ (by omega) (by omega) s7 p7 l7 c7 q7 k7 d7 s8 p8 l8 c8 q8 k8 d8 W (h7.kp gu) h8
    rw [ecm] at hx
    exact hx
  · obtain ⟨z1, z2⟩ := ha _ W s6 p6 l6 c6 q6 k6 d6 (h6.kp gu)
    have hx := bitX_ p6 l6 c6 (A / C) W z1 (by omega)
    rw [hb] at hx
    exact hx
  · obtain ⟨z1, z2⟩ := ha _ W s6 p6 l6 c6 q6 k6 d6 (h6.kp gu)
    refine (lenR _ (A / C) W z1 (by omega)).mono ?_
    rintro e w' ⟨rfl, rfl⟩
    exact ⟨rfl, Kp.refl _⟩
  · refine (int1X_ W).mono ?_
    rintro e w' ⟨s9, p9, l9, c9, q9, k9, d9, rfl, hp, g1⟩
    exact ⟨s9, p9, l9, c9, q9, k9, d9, rfl, hp.mono (Nat.zero_le _), g1⟩
  · refine (xadd_ _ _ 1 1 (N + 2) 1500 (by omega) s6 p6 l6 c6 q6 k6 d6 s9 p9 l9 c9 q9 k9 d9 _ 0 W (h6.kp gu).xp h9).mono ?_
    rintro e w' ⟨s3, p3, l3, c3, q3, k3, d3, rfl, hp, g1⟩
    exact ⟨s3, p3, l3, c3, q3, k3, d3, rfl, hp.as _ C _ hc (by rw [eS, eQ]; simp) (by omega), g1⟩
  · rintro e w' ⟨W, W2, b, s3, p3, l3, c3, q3, k3, d3, rfl, hq, rfl, u1, u2, u3, g⟩
    exact ⟨s3, p3, l3, c3, q3, k3, d3, rfl, XP.mono ((((((((hq).set (x := ⟨b, 0, none⟩) u2 (.bool s3)).set (x := ⟨b, 1, none⟩) u2 (.slice p3 l3 c3)).set (x := ⟨b, 2, none⟩) u2 (.slice q3 k3 d3))).set (x := ⟨w.heap.size + 1, 0, none⟩) u1 (.bool s3)).set (x := ⟨w.heap.size + 1, 1, none⟩) u1 (.slice p3 l3 c3)).set (x := ⟨w.heap.size + 1, 2, none⟩) u1 (.slice q3 k3 d3)) (by omega), (((((((g).setCell (by simp <;> omega) _).setCell (by simp <;> omega) _).setCell (by simp <;> omega) _)).setCell (by simp) _).setCell (by simp) _).setCell (by simp) _⟩
set_option maxRecDepth 20000 in
set_option maxHeartbeats 400000 in
theorem xp511_ (V : Int) (C N : Nat) (hN : N ≤ 20000) (s : Bool) (p : Option Addr) (l c : Nat) (q : Option Addr) (k d : Nat) (B1 : Nat) (w : World) (h : XP B1 w s p l c q k d V C N) (ng : ¬ V < 0) (cc : C < 2 * (V.natAbs % C)) (hb : V.natAbs / C % 2 = 1) : Calls Try.prog 32 #[.int .i64 5, .agg #[.bool s, .slice p l c, .slice q k d]] w fun e w' => ∃ (s3 : Bool) (p3 : Option Addr) (l3 c3 : Nat) (q3 : Option Addr) (k3 d3 : Nat), e = .returned (.agg #[.bool s3, .slice p3 l3 c3, .slice q3 k3 d3]) ∧ XP w.heap.size w' s3 p3 l3 c3 q3 k3 d3 (stV 5 C V) C (5 * N + 4000) ∧ Kp w w' := by
  have hc : C ≠ 0 := by obtain ⟨a, b, -, -, hx⟩ := h; exact hx.2.1
  obtain ⟨A, rfl⟩ : ∃ A : Nat, V = (A : Int) := ⟨V.toNat, by omega⟩
  have eN : (A : Int).natAbs = A := by omega
  rw [eN] at cc hb
  have eQ : (A : Int) / (C : Int) = ((A / C : Nat) : Int) := rfl
  have eD : (A : Int) = (C : Int) * ((A / C : Nat) : Int) + ((A % C : Nat) : Int) := by rw [← Int.natCast_mul, ← Int.natCast_add, Nat.div_add_mod]
  have eR : (A : Int) * ((1 : Nat) : Int) - (A : Int) / (C : Int) * (C : Int) = ((A % C : Nat) : Int) := by
    rw [eQ, Int.mul_comm ((A / C : Nat) : Int)]
    have e1 : (A : Int) * ((1 : Nat) : Int) = (A : Int) := by simp
    rw [e1]; omega
  have hbm : bmp 5 false (A / C) (A % C) C = true := by unfold bmp upw; simp <;> omega
  have eS : stV 5 C (A : Int) = ((A / C + 1 : Nat) : Int) * (C : Int) := by
    unfold stV cutN
    rw [if_neg (by decide), if_neg (by omega), eN, hbm, Int.natCast_mul]; rfl
  have ecm : cmI (((A : Int) * ((1 : Nat) : Int) - (A : Int) / (C : Int) * (C : Int)) * ((2 : Nat) : Int)) (1 * ((C * 1 : Nat) : Int)) = 1 := by
    rw [eR]
    have cc' := cc
    clear eD eR eS hbm eQ h hb
    obtain ⟨r, hr⟩ : ∃ r, r = A % C := ⟨_, rfl⟩
    rw [← hr] at cc' ⊢
    clear hr cc
    have e2 : ((C * 1 : Nat) : Int) = (C : Int) := by rw [Nat.mul_one]
    have e3 : ((2 : Nat) : Int) = 2 := rfl
    rw [e2, e3]
    unfold cmI; rw [if_neg (by omega), if_pos (by omega)]
  have sg : ¬ sgV (A : Int) < 0 := by unfold sgV; rw [if_neg ng]; split <;> decide
  have ha : ∀ (B : Nat) (W : World) (s6 : Bool) (p6 : Option Addr) (l6 c6 : Nat) (q6 : Option Addr) (k6 d6 : Nat), FP B W s6 p6 l6 c6 q6 k6 d6 ((A : Int) / (C : Int)) (N + 1) → Ls W (.slice p6 l6 c6) (dig (A / C)) ∧ blen (A / C) ≤ N + 1 := by
    rintro B W s6 p6 l6 c6 q6 k6 d6 ⟨a, o1, o2, e, bl⟩
    have : a = A / C := by
      rw [eQ] at e; unfold rvI at e
      clear hb eQ eD eR hbm eS ecm cc
      generalize A / C = Q at e ⊢
      cases s6
      · rw [if_neg (by decide)] at e; omega
      · rw [if_pos rfl] at e; omega
    subst this
    exact ⟨o1.ls, bl⟩
  refine (stN511_ (sgV (A : Int)) sg (blen (A / C) : Int) (by have := blen_spec (A / C) (by intro z; rw [z] at hb; simp at hb); omega) s p l c q k d (fun w' s6 p6 l6 c6 q6 k6 d6 => FP (w.heap.size + 2) w' s6 p6 l6 c6 q6 k6 d6 ((A : Int) / (C : Int)) (N + 1)) (fun w' s7 p7 l7 c7 q7 k7 d7 => XP 0 w' s7 p7 l7 c7 q7 k7 d7 ((A : Int) * ((1 : Nat) : Int) - (A : Int) / (C : Int) * (C : Int)) (C * 1) (2 * (N + (N + 2)) + 3)) (fun w' s8 p8 l8 c8 q8 k8 d8 => XP 0 w' s8 p8 l8 c8 q8 k8 d8 1 2 20) (fun w' s9 p9 l9 c9 q9 k9 d9 => XP 0 w' s9 p9 l9 c9 q9 k9 d9 1 1 1500) (fun W w' s3 p3 l3 c3 q3 k3 d3 => XP W.heap.size w' s3 p3 l3 c3 q3 k3 d3 (stV 5 C (A : Int)) C (5 * N + 4000)) w (fun W g => xsign_ _ C N (by omega) s p l c q k d B1 W (h.kp g)) (fun W g gl => ?_) (fun U W s6 p6 l6 c6 q6 k6 d6 g h6 gu => ?_) (fun W => ?_) (fun U W s7 p7 l7 c7 q7 k7 d7 s8 p8 l8 c8 q8 k8 d8 h7 gu h8 => ?_) (fun U W s6 p6 l6 c6 q6 k6 d6 h6 gu => ?_) (fun U W s6 p6 l6 c6 q6 k6 d6 h6 gu => ?_) (fun W g => ?_) (fun U W s6 p6 l6 c6 q6 k6 d6 s9 p9 l9 c9 q9 k9 d9 h6 gu h9 => ?_)).mono ?_
  · refine (floorX_ _ C N (by omega) s p l c q k d B1 W (h.kp g)).mono ?_
    rintro e w' ⟨s6, p6, l6, c6, q6, k6, d6, rfl, hf, g1⟩
    exact ⟨s6, p6, l6, c6, q6, k6, d6, rfl, hf.mono (by omega), g1⟩
  · refine (xsub_ _ _ C 1 N (N + 2) (by omega) s p l c q k d s6 p6 l6 c6 q6 k6 d6 B1 _ W (h.kp g) (h6.kp gu).xp).mono ?_
    rintro e w' ⟨s7, p7, l7, c7, q7, k7, d7, rfl, hp, g1⟩
    exact ⟨s7, p7, l7, c7, q7, k7, d7, rfl, hp.mono (Nat.zero_le _), g1⟩
  · refine (halfX_ W).mono ?_
    rintro e w' ⟨s8, p8, l8, c8, q8, k8, d8, rfl, hp, g1⟩
    exact ⟨s8, p8, l8, c8, q8, k8, d8, rfl, hp.mono (Nat.zero_le _), g1⟩
  · have hx := xcmp_ 0 0 _ _ _ _ _ _ (by omega) (by omega) s7 p7 l7 c7 q7 k7 d7 s8 p8 l8 c8 q8 k8 d8 W (h7.kp gu) h8
    rw [ecm] at hx
    exact hx
  · obtain ⟨z1, z2⟩ := ha _ W s6 p6 l6 c6 q6 k6 d6 (h6.kp gu)
    have hx := bitX_ p6 l6 c6 (A / C) W z1 (by omega)
    rw [hb] at hx
    exact hx
  · obtain ⟨z1, z2⟩ := ha _ W s6 p6 l6 c6 q6 k6 d6 (h6.kp gu)
    refine (lenR _ (A / C) W z1 (by omega)).mono ?_
    rintro e w' ⟨rfl, rfl⟩
    exact ⟨rfl, Kp.refl _⟩
  · refine (int1X_ W).mono ?_
    rintro e w' ⟨s9, p9, l9, c9, q9, k9, d9, rfl, hp, g1⟩
    exact ⟨s9, p9, l9, c9, q9, k9, d9, rfl, hp.mono (Nat.zero_le _), g1⟩
  · refine (xadd_ _ _ 1 1 (N + 2) 1500 (by omega) s6 p6 l6 c6 q6 k6 d6 s9 p9 l9 c9 q9 k9 d9 _ 0 W (h6.kp gu).xp h9).mono ?_
    rintro e w' ⟨s3, p3, l3, c3, q3, k3, d3, rfl, hp, g1⟩
    exact ⟨s3, p3, l3, c3, q3, k3, d3, rfl, hp.as _ C _ hc (by rw [eS, eQ]; simp) (by omega), g1⟩
  · rintro e w' ⟨W, W2, b, s3, p3, l3, c3, q3, k3, d3, rfl, hq, rfl, u1, u2, u3, g⟩
    exact ⟨s3, p3, l3, c3, q3, k3, d3, rfl, XP.mono ((((((((hq).set (x := ⟨b, 0, none⟩) u2 (.bool s3)).set (x := ⟨b, 1, none⟩) u2 (.slice p3 l3 c3)).set (x := ⟨b, 2, none⟩) u2 (.slice q3 k3 d3))).set (x := ⟨w.heap.size + 1, 0, none⟩) u1 (.bool s3)).set (x := ⟨w.heap.size + 1, 1, none⟩) u1 (.slice p3 l3 c3)).set (x := ⟨w.heap.size + 1, 2, none⟩) u1 (.slice q3 k3 d3)) (by omega), (((((((g).setCell (by simp <;> omega) _).setCell (by simp <;> omega) _).setCell (by simp <;> omega) _)).setCell (by simp) _).setCell (by simp) _).setCell (by simp) _⟩
end Go.Proofs.Ytbbmoaiilnfmgaa
