import Derived.Test.YtbbmoaiilnfmgaaKWPp
import Derived.Test.YtbbmoaiilnfmgaaKWPr
import Derived.Test.YtbbmoaiilnfmgaaKWPt
import Derived.Test.YtbbmoaiilnfmgaaKWPu
import Derived.Test.YtbbmoaiilnfmgaaKWPv
namespace Go.Proofs.Ytbbmoaiilnfmgaa
open Go.RowKit
set_option linter.unusedVariables false
set_option maxRecDepth 20000 in
set_option maxHeartbeats 400000 in
theorem xq5m1_ (V : Int) (C N : Nat) (hN : N ≤ 15000) (s : Bool) (p : Option Addr) (l c : Nat) (q : Option Addr) (k d : Nat) (B1 : Nat) (w : World) (h : XP B1 w s p l c q k d V C N) (ng : V < 0) (cc : 2 * (V.natAbs % C) < C) (hb : V.natAbs / C % 2 = 1) : Calls Try.prog 32 #[.int .i64 5, .agg #[.bool s, .slice p l c, .slice q k d]] w fun e w' => ∃ (s3 : Bool) (p3 : Option Addr) (l3 c3 : Nat) (q3 : Option Addr) (k3 d3 : Nat), e = .returned (.agg #[.bool s3, .slice p3 l3 c3, .slice q3 k3 d3]) ∧ XP w.heap.size w' s3 p3 l3 c3 q3 k3 d3 (stV 5 C V) C (5 * N + 4000) ∧ Kp w w' := by
  have hc : C ≠ 0 := by obtain ⟨a, b, -, -, hx⟩ := h; exact hx.2.1
  obtain ⟨A, rfl⟩ : ∃ A : Nat, V = -(A : Int) := ⟨(-V).toNat, by omega⟩
  have eN : (-(A : Int)).natAbs = A := by omega
  have eN' : (A : Int).natAbs = A := by omega
  rw [eN] at cc hb
  have eQ : (A : Int) / (C : Int) = ((A / C : Nat) : Int) := rfl
  have eD : (A : Int) = (C : Int) * ((A / C : Nat) : Int) + ((A % C : Nat) : Int) := by rw [← Int.natCast_mul, ← Int.natCast_add, Nat.div_add_mod]
  have eR : (A : Int) * ((1 : Nat) : Int) - (A : Int) / (C : Int) * (C : Int) = ((A % C : Nat) : Int) := by
    rw [eQ, Int.mul_comm ((A / C : Nat) : Int)]
    have e1 : (A : Int) * ((1 : Nat) : Int) = (A : Int) := by simp
    rw [e1]; omega
  have hbm : bmp 5 false (A / C) (A % C) C = false := by unfold bmp upw; simp <;> omega
  have eS : stV 5 C (A : Int) = ((A / C + 0 : Nat) : Int) * (C : Int) := by
    unfold stV cutN
    rw [if_neg (by decide), if_neg (by omega), eN', hbm, Int.natCast_mul]; rfl
  have ecm : cmI (((A : Int) * ((1 : Nat) : Int) - (A : Int) / (C : Int) * (C : Int)) * ((2 : Nat) : Int)) (1 * ((C * 1 : Nat) : Int)) = -1 := by
    rw [eR]
    have cc' := cc
    clear eD eR eS hbm eQ h hb
    obtain ⟨r, hr⟩ : ∃ r, r = A % C := ⟨_, rfl⟩
    rw [← hr] at cc' ⊢
    clear hr cc
    have e2 : ((C * 1 : Nat) : Int) = (C : Int) := by rw [Nat.mul_one]
    have e3 : ((2 : Nat) : Int) = 2 := rfl
    rw [e2, e3]
    unfold cmI; rw [if_pos (by omega)]
  have eT : stV 5 C (-(A : Int)) = -(((A / C + 0 : Nat) : Int) * (C : Int)) := by rw [stV_neg 5 C (by omega) (by decide), eS]
  have sg : sgV (-(A : Int)) < 0 := by unfold sgV; rw [if_pos ng]; decide
  have ha : ∀ (B : Nat) (W : World) (s6 : Bool) (p6 : Option Addr) (l6 c6 : Nat) (q6 : Option Addr) (k6 d6 : Nat), FP B W s6 p6 l6 c6 q6 k6 d6 ((A : Int) / (C : Int)) (N + 1) → Ls W (.slice p6 l6 c6) (dig (A / C)) ∧ blen (A / C) ≤ N + 1 := by
    rintro B W s6 p6 l6 c6 q6 k6 d6 ⟨a, o1, o2, e, bl⟩
    have : a = A / C := by
      rw [eQ] at e; unfold rvI at e
      clear hb eQ eD eR hbm eS ecm cc
      generalize A / C = Q at e ⊢
      cases s6
      · rw [if_neg (by decide)] at e; omega
      · rw [if_pos rfl] at e; omega
    subst this
    exact ⟨o1.ls, bl⟩
  refine (stM5m1_ (sgV (-(A : Int))) sg (blen (A / C) : Int) (by have := blen_spec (A / C) (by intro z; rw [z] at hb; simp at hb); omega) s p l c q k d (fun W w' s5 p5 l5 c5 q5 k5 d5 => XP W.heap.size w' s5 p5 l5 c5 q5 k5 d5 (A : Int) C N) (fun w' s6 p6 l6 c6 q6 k6 d6 => FP 0 w' s6 p6 l6 c6 q6 k6 d6 ((A : Int) / (C : Int)) (N + 1)) (fun w' s7 p7 l7 c7 q7 k7 d7 => XP 0 w' s7 p7 l7 c7 q7 k7 d7 ((A : Int) * ((1 : Nat) : Int) - (A : Int) / (C : Int) * (C : Int)) (C * 1) (2 * (N + (N + 2)) + 3)) (fun w' s8 p8 l8 c8 q8 k8 d8 => XP 0 w' s8 p8 l8 c8 q8 k8 d8 1 2 20)  (fun W w' s4 p4 l4 c4 q4 k4 d4 => XP W.heap.size w' s4 p4 l4 c4 q4 k4 d4 (stV 5 C (-(A : Int))) C (5 * N + 4000)) w (fun W g => xsign_ _ C N (by omega) s p l c q k d B1 W (h.kp g)) (fun W g => ?_) (fun W W' b s5 p5 l5 c5 q5 k5 d5 g h5 hb => ?_) (fun W W' b s5 p5 l5 c5 q5 k5 d5 U Y s6 p6 l6 c6 q6 k6 d6 h5 hb gp g h6 gu => ?_) (fun W => ?_) (fun U W s7 p7 l7 c7 q7 k7 d7 s8 p8 l8 c8 q8 k8 d8 h7 gu h8 => ?_) (fun U W s6 p6 l6 c6 q6 k6 d6 h6 gu => ?_) (fun U W s6 p6 l6 c6 q6 k6 d6 h6 gu => ?_) (fun U W s6 p6 l6 c6 q6 k6 d6 g h6 gu => ?_)).mono ?_
  · refine (xneg_ _ C N (by omega) s p l c q k d B1 W (h.kp g)).mono ?_
    rintro e w' ⟨s5, p5, l5, c5, q5, k5, d5, rfl, hp, g1⟩
    rw [Int.neg_neg] at hp
    exact ⟨s5, p5, l5, c5, q5, k5, d5, rfl, hp, g1⟩
  · have h5' := (((h5).set (x := ⟨b, 0, none⟩) hb (.bool s5)).set (x := ⟨b, 1, none⟩) hb (.slice p5 l5 c5)).set (x := ⟨b, 2, none⟩) hb (.slice q5 k5 d5)
    refine (floorX_ _ C N (by omega) s5 p5 l5 c5 q5 k5 d5 W.heap.size _ h5').mono ?_
    rintro e w' ⟨s6, p6, l6, c6, q6, k6, d6, rfl, hf, g1⟩
    exact ⟨s6, p6, l6, c6, q6, k6, d6, rfl, hf.mono (Nat.zero_le _), g1⟩
  · have h5' := (((h5).set (x := ⟨b, 0, none⟩) hb (.bool s5)).set (x := ⟨b, 1, none⟩) hb (.slice p5 l5 c5)).set (x := ⟨b, 2, none⟩) hb (.slice q5 k5 d5)
    refine (xsub_ _ _ C 1 N (N + 2) (by omega) s5 p5 l5 c5 q5 k5 d5 s6 p6 l6 c6 q6 k6 d6 W.heap.size _ Y (h5'.kp gp) (h6.kp gu).xp).mono ?_
    rintro e w' ⟨s7, p7, l7, c7, q7, k7, d7, rfl, hp, g1⟩
    exact ⟨s7, p7, l7, c7, q7, k7, d7, rfl, hp.mono (Nat.zero_le _), g1⟩
  · refine (halfX_ W).mono ?_
    rintro e w' ⟨s8, p8, l8, c8, q8, k8, d8, rfl, hp, g1⟩
    exact ⟨s8, p8, l8, c8, q8, k8, d8, rfl, hp.mono (Nat.zero_le _), g1⟩
  · have hx := xcmp_ 0 0 _ _ _ _ _ _ (by omega) (by omega) s7 p7 l7 c7 q7 k7 d7 s8 p8 l8 c8 q8 k8 d8 W (h7.kp gu) h8
    rw [ecm] at hx
    exact hx
  · obtain ⟨z1, z2⟩ := ha _ W s6 p6 l6 c6 q6 k6 d6 (h6.kp gu)
    have hx := bitX_ p6 l6 c6 (A / C) W z1 (by omega)
    rw [hb] at hx
    exact hx
  · obtain ⟨z1, z2⟩ := ha _ W s6 p6 l6 c6 q6 k6 d6 (h6.kp gu)
    refine (lenR _ (A / C) W z1 (by omega)).mono ?_
    rintro e w' ⟨rfl, rfl⟩
    exact ⟨rfl, Kp.refl _⟩
  · refine (xneg_ _ 1 (N + 2) (by omega) s6 p6 l6 c6 q6 k6 d6 0 W (h6.kp gu).xp).mono ?_
    rintro e w' ⟨s4, p4, l4, c4, q4, k4, d4, rfl, hp, g1⟩
    exact ⟨s4, p4, l4, c4, q4, k4, d4, rfl, hp.as _ C _ hc (by rw [eT, eQ]; simp [Int.neg_mul]) (by omega), g1⟩
  · rintro e w' ⟨W, wh, s4, p4, l4, c4, q4, k4, d4, rfl, hq, rfl, hlt, g⟩
    exact ⟨s4, p4, l4, c4, q4, k4, d4, rfl, XP.mono ((((hq).set (x := ⟨w.heap.size + 1, 0, none⟩) hlt (.bool s4)).set (x := ⟨w.heap.size + 1, 1, none⟩) hlt (.slice p4 l4 c4)).set (x := ⟨w.heap.size + 1, 2, none⟩) hlt (.slice q4 k4 d4)) (by omega), (((g).setCell (by simp) _).setCell (by simp) _).setCell (by simp) _⟩
set_option maxRecDepth 20000 in
set_option maxHeartbeats 400000 in
theorem xq501_ (V : Int) (C N : Nat) (hN : N ≤ 15000) (s : Bool) (p : Option Addr) (l c : Nat) (q : Option Addr) (k d : Nat) (B1 : Nat) (w : World) (h : XP B1 w s p l c q k d V C N) (ng : V < 0) (cc : 2 * (V.natAbs % C) = C) (hb : V.natAbs / C % 2 = 1) : Calls Try.prog 32 #[.int .i64 5, .agg #[.bool s, .slice p l c, .slice q k d]] w fun e w' => ∃ (s3 : Bool) (p3 : Option Addr) (l3 c3 : Nat) (q3 : Option Addr) (k3 d3 : Nat), e = .returned (.agg #[.bool s3, .slice p3 l3 c3, .slice q3 k3 d3]) ∧ XP w.heap.size w' s3 p3 l3 c3 q3 k3 d3 (stV 5 C V) C (5 * N + 4000) ∧ Kp w w' := by
  have hc : C ≠ 0 := by obtain ⟨a, b, -, -, hx⟩ := h; exact hx.2.1
  obtain ⟨A, rfl⟩ : ∃ A : Nat, V = -(A : Int) := ⟨(-V).toNat, by omega⟩
  have eN : (-(A : Int)).natAbs = A := by omega
  have eN' : (A : Int).natAbs = A := by omega
  rw [eN] at cc hb
  have eQ : (A : Int) / (C : Int) = ((A / C : Nat) : Int) := rfl
  have eD : (A : Int) = (C : Int) * ((A / C : Nat) : Int) + ((A % C : Nat) : Int) := by rw [← Int.natCast_mul, ← Int.natCast_add, Nat.div_add_mod]
  have eR : (A : Int) * ((1 : Nat) : Int) - (A : Int) / (C : Int) * (C : Int) = ((A % C : Nat) : Int) := by
    rw [eQ, Int.mul_comm ((A / C : Nat) : Int)]
    have e1 : (A : Int) * ((1 : Nat) : Int) = (A : Int) := by simp
    rw [e1]; omega
  have hbm : bmp 5 false (A / C) (A % C) C = true := by unfold bmp upw; simp <;> omega
  have eS : stV 5 C (A : Int) = ((A / C + 1 : Nat) : Int) * (C : Int) := by
    unfold stV cutN
    rw [if_neg (by decide), if_neg (by omega), eN', hbm, Int.natCast_mul]; rfl
  have ecm : cmI (((A : Int) * ((1 : Nat) : Int) - (A : Int) / (C : Int) * (C : Int)) * ((2 : Nat) : Int)) (1 * ((C * 1 : Nat) : Int)) = 0 := by
    rw [eR]
    have cc' := cc
    clear eD eR eS hbm eQ h hb
    obtain ⟨r, hr⟩ : ∃ r, r = A % C := ⟨_, rfl⟩
    rw [← hr] at cc' ⊢
    clear hr cc
    have e2 : ((C * 1 : Nat) : Int) = (C : Int) := by rw [Nat.mul_one]
    have e3 : ((2 : Nat) : Int) = 2 := rfl
    rw [e2, e3]
    unfold cmI; rw [if_neg (by omega), if_neg (by omega)]
  have eT : stV 5 C (-(A : Int)) = -(((A / C + 1 : Nat) : Int) * (C : Int)) := by rw [stV_neg 5 C (by omega) (by decide), eS]
  have sg : sgV (-(A : Int)) < 0 := by unfold sgV; rw [if_pos ng]; decide
  have ha : ∀ (B : Nat) (W : World) (s6 : Bool) (p6 : Option Addr) (l6 c6 : Nat) (q6 : Option Addr) (k6 d6 : Nat), FP B W s6 p6 l6 c6 q6 k6 d6 ((A : Int) / (C : Int)) (N + 1) → Ls W (.slice p6 l6 c6) (dig (A / C)) ∧ blen (A / C) ≤ N + 1 := by
    rintro B W s6 p6 l6 c6 q6 k6 d6 ⟨a, o1, o2, e, bl⟩
    have : a = A / C := by
      rw [eQ] at e; unfold rvI at e
      clear hb eQ eD eR hbm eS ecm cc
      generalize A / C = Q at e ⊢
      cases s6
      · rw [if_neg (by decide)] at e; omega
      · rw [if_pos rfl] at e; omega
    subst this
    exact ⟨o1.ls, bl⟩
  refine (stM501_ (sgV (-(A : Int))) sg (blen (A / C) : Int) (by have := blen_spec (A / C) (by intro z; rw [z] at hb; simp at hb); omega) s p l c q k d (fun W w' s5 p5 l5 c5 q5 k5 d5 => XP W.heap.size w' s5 p5 l5 c5 q5 k5 d5 (A : Int) C N) (fun w' s6 p6 l6 c6 q6 k6 d6 => FP 0 w' s6 p6 l6 c6 q6 k6 d6 ((A : Int) / (C : Int)) (N + 1)) (fun w' s7 p7 l7 c7 q7 k7 d7 => XP 0 w' s7 p7 l7 c7 q7 k7 d7 ((A : Int) * ((1 : Nat) : Int) - (A : Int) / (C : Int) * (C : Int)) (C * 1) (2 * (N + (N + 2)) + 3)) (fun w' s8 p8 l8 c8 q8 k8 d8 => XP 0 w' s8 p8 l8 c8 q8 k8 d8 1 2 20) (fun w' s9 p9 l9 c9 q9 k9 d9 => XP 0 w' s9 p9 l9 c9 q9 k9 d9 1 1 1500) (fun W w' s3 p3 l3 c3 q3 k3 d3 => XP W.heap.size w' s3 p3 l3 c3 q3 k3 d3 (stV 5 C (A : Int)) C (5 * N + 4000)) (fun W w' s4 p4 l4 c4 q4 k4 d4 => XP W.heap.size w' s4 p4 l4 c4 q4 k4 d4 (stV 5 C (-(A : Int))) C (5 * N + 4000)) w (fun W g => xsign_ _ C N (by omega) s p l c q k d B1 W (h.kp g)) (fun W g => ?_) (fun W W' b s5 p5 l5 c5 q5 k5 d5 g h5 hb => ?_) (fun W W' b s5 p5 l5 c5 q5 k5 d5 U Y s6 p6 l6 c6 q6 k6 d6 h5 hb gp g h6 gu => ?_) (fun W => ?_) (fun U W s7 p7 l7 c7 q7 k7 d7 s8 p8 l8 c8 q8 k8 d8 h7 gu h8 => ?_) (fun U W s6 p6 l6 c6 q6 k6 d6 h6 gu => ?_) (fun U W s6 p6 l6 c6 q6 k6 d6 h6 gu => ?_) (fun W g => ?_) (fun U W s6 p6 l6 c6 q6 k6 d6 s9 p9 l9 c9 q9 k9 d9 h6 gu h9 => ?_) (fun W W5 b s3 p3 l3 c3 q3 k3 d3 g hq hb => ?_)).mono ?_
  · refine (xneg_ _ C N (by omega) s p l c q k d B1 W (h.kp g)).mono ?_
    rintro e w' ⟨s5, p5, l5, c5, q5, k5, d5, rfl, hp, g1⟩
    rw [Int.neg_neg] at hp
    exact ⟨s5, p5, l5, c5, q5, k5, d5, rfl, hp, g1⟩
  · have h5' := (((h5).set (x := ⟨b, 0, none⟩) hb (.bool s5)).set (x := ⟨b, 1, none⟩) hb (.slice p5 l5 c5)).set (x := ⟨b, 2, none⟩) hb (.slice q5 k5 d5)
    refine (floorX_ _ C N (by omega) s5 p5 l5 c5 q5 k5 d5 W.heap.size _ h5').mono ?_
    rintro e w' ⟨s6, p6, l6, c6, q6, k6, d6, rfl, hf, g1⟩
    exact ⟨s6, p6, l6, c6, q6, k6, d6, rfl, hf.mono (Nat.zero_le _), g1⟩
  · have h5' := (((h5).set (x := ⟨b, 0, none⟩) hb (.bool s5)).set (x := ⟨b, 1, none⟩) hb (.slice p5 l5 c5)).set (x := ⟨b, 2, none⟩) hb (.slice q5 k5 d5)
    refine (xsub_ _ _ C 1 N (N + 2) (by omega) s5 p5 l5 c5 q5 k5 d5 s6 p6 l6 c6 q6 k6 d6 W.heap.size _ Y (h5'.kp gp) (h6.kp gu).xp).mono ?_
    rintro e w' ⟨s7, p7, l7, c7, q7, k7, d7, rfl, hp, g1⟩
    exact ⟨s7, p7, l7, c7, q7, k7, d7, rfl, hp.mono (Nat.zero_le _), g1⟩
  · refine (halfX_ W).mono ?_
    rintro e w' ⟨s8, p8, l8, c8, q8, k8, d8, rfl, hp, g1⟩
    exact ⟨s8, p8, l8, c8, q8, k8, d8, rfl, hp.mono (Nat.zero_le _), g1⟩
  · have hx := xcmp_ 0 0 _ _ _ _ _ _ (by omega) (by omega) s7 p7 l7 c7 q7 k7 d7 s8 p8 l8 c8 q8 k8 d8 W (h7.kp gu) h8
    rw [ecm] at hx
    exact hx
  · obtain ⟨z1, z2⟩ := ha _ W s6 p6 l6 c6 q6 k6 d6 (h6.kp gu)
    have hx := bitX_ p6 l6 c6 (A / C) W z1 (by omega)
    rw [hb] at hx
    exact hx
  · obtain ⟨z1, z2⟩ := ha _ W s6 p6 l6 c6 q6 k6 d6 (h6.kp gu)
    refine (lenR _ (A / C) W z1 (by omega)).mono ?_
    rintro e w' ⟨rfl, rfl⟩
    exact ⟨rfl, Kp.refl _⟩
  · refine (int1X_ W).mono ?_
    rintro e w' ⟨s9, p9, l9, c9, q9, k9, d9, rfl, hp, g1⟩
    exact ⟨s9, p9, l9, c9, q9, k9, d9, rfl, hp.mono (Nat.zero_le _), g1⟩
  · refine (xadd_ _ _ 1 1 (N + 2) 1500 (by omega) s6 p6 l6 c6 q6 k6 d6 s9 p9 l9 c9 q9 k9 d9 _ 0 W (h6.kp gu).xp h9).mono ?_
    rintro e w' ⟨s3, p3, l3, c3, q3, k3, d3, rfl, hp, g1⟩
    exact ⟨s3, p3, l3, c3, q3, k3, d3, rfl, hp.as _ C _ hc (by rw [eS, eQ]; simp) (by omega), g1⟩
  · have hq' := (((hq).set (x := ⟨b, 0, none⟩) hb (.bool s3)).set (x := ⟨b, 1, none⟩) hb (.slice p3 l3 c3)).set (x := ⟨b, 2, none⟩) hb (.slice q3 k3 d3)
    refine (xneg_ _ C (5 * N + 4000) (by omega) s3 p3 l3 c3 q3 k3 d3 W.heap.size _ hq').mono ?_
    rintro e w' ⟨s4, p4, l4, c4, q4, k4, d4, rfl, hp, g1⟩
    rw [eS, ← eT] at hp
    exact ⟨s4, p4, l4, c4, q4, k4, d4, rfl, hp, g1⟩
  · rintro e w' ⟨W, wh, s4, p4, l4, c4, q4, k4, d4, rfl, hq, rfl, hlt, g⟩
    exact ⟨s4, p4, l4, c4, q4, k4, d4, rfl, XP.mono ((((hq).set (x := ⟨w.heap.size + 1, 0, none⟩) hlt (.bool s4)).set (x := ⟨w.heap.size + 1, 1, none⟩) hlt (.slice p4 l4 c4)).set (x := ⟨w.heap.size + 1, 2, none⟩) hlt (.slice q4 k4 d4)) (by omega), (((g).setCell (by simp) _).setCell (by simp) _).setCell (by simp) _⟩
set_option maxRecDepth 20000 in
set_option maxHeartbeats 400000 in
theorem xq511_ (V : Int) (C N : Nat) (hN : N ≤ 15000) (s : Bool) (p : Option Addr) (l c : Nat) (q : Option Addr) (k d : Nat) (B1 : Nat) (w : World) (h : XP B1 w s p l c q k d V C N) (ng : V < 0) (cc : C < 2 * (V.natAbs % C)) (hb : V.natAbs / C % 2 = 1) : Calls Try.prog 32 #[.int .i64 5, .agg #[.bool s, .slice p l c, .slice q k d]] w fun e w' => ∃ (s3 : Bool) (p3 : Option Addr) (l3 c3 : Nat) (q3 : Option Addr) (k3 d3 : Nat), e = .returned (.agg #[.bool s3, .slice p3 l3 c3, .slice q3 k3 d3]) ∧ XP w.heap.size w' s3 p3 l3 c3 q3 k3 d3 (stV 5 C V) C (5 * N + 4000) ∧ Kp w w' := by
  have hc : C ≠ 0 := by obtain ⟨a, b, -, -, hx⟩ := h; exact hx.2.1
  obtain ⟨A, rfl⟩ : ∃ A : Nat, V = -(A : Int) := ⟨(-V).toNat, by omega⟩
  have eN : (-(A : Int)).natAbs = A := by omega
  have eN' : (A : Int).natAbs = A := by omega
  rw [eN] at cc hb
  have eQ : (A : Int) / (C : Int) = ((A / C : Nat) : Int) := rfl
  have eD : (A : Int) = (C : Int) * ((A / C : Nat) : Int) + ((A % C : Nat) : Int) := by rw [← Int.natCast_mul, ← Int.natCast_add, Nat.div_add_mod]
  have eR : (A : Int) * ((1 : Nat) : Int) - (A : Int) / (C : Int) * (C : Int) = ((A % C : Nat) : Int) := by
    rw [eQ, Int.mul_comm ((A / C : Nat) : Int)]
    have e1 : (A : Int) * ((1 : Nat) : Int) = (A : Int) := by simp
    rw [e1]; omega
  have hbm : bmp 5 false (A / C) (A % C) C = true := by unfold bmp upw; simp <;> omega
  have eS : stV 5 C (A : Int) = ((A / C + 1 : Nat) : Int) * (C : Int) := by
    unfold stV cutN
    rw [if_neg (by decide), if_neg (by omega), eN', hbm, Int.natCast_mul]; rfl
  have ecm : cmI (((A : Int) * ((1 : Nat) : Int) - (A : Int) / (C : Int) * (C : Int)) * ((2 : Nat) : Int)) (1 * ((C * 1 : Nat) : Int)) = 1 := by
    rw [eR]
    have cc' := cc
    clear eD eR eS hbm eQ h hb
    obtain ⟨r, hr⟩ : ∃ r, r = A % C := ⟨_, rfl⟩
    rw [← hr] at cc' ⊢
    clear hr cc
    have e2 : ((C * 1 : Nat) : Int) = (C : Int) := by rw [Nat.mul_one]
    have e3 : ((2 : Nat) : Int) = 2 := rfl
    rw [e2, e3]
    unfold cmI; rw [if_neg (by omega), if_pos (by omega)]
  have eT : stV 5 C (-(A : Int)) = -(((A / C + 1 : Nat) : Int) * (C : Int)) := by rw [stV_neg 5 C (by omega) (by decide), eS]
  have sg : sgV (-(A : Int)) < 0 := by unfold sgV; rw [if_pos ng]; decide
  have ha : ∀ (B : Nat) (W : World) (s6 : Bool) (p6 : Option Addr) (l6 c6 : Nat) (q6 : Option Addr) (k6 d6 : Nat), FP B W s6 p6 l6 c6 q6 k6 d6 ((A : Int) / (C : Int)) (N + 1) → Ls W (.slice p6 l6 c6) (dig (A / C)) ∧ blen (A / C) ≤ N + 1 := by
    rintro B W s6 p6 l6 c6 q6 k6 d6 ⟨a, o1, o2, e, bl⟩
    have : a = A / C := by
      rw [eQ] at e; unfold rvI at e
      clear hb eQ eD eR hbm eS ecm cc
      generalize A / C = Q at e ⊢
      cases s6
      · rw [if_neg (by decide)] at e; omega
      · rw [if_pos rfl] at e; omega
    subst this
    exact ⟨o1.ls, bl⟩
  refine (stM511_ (sgV (-(A : Int))) sg (blen (A / C) : Int) (by have := blen_spec (A / C) (by intro z; rw [z] at hb; simp at hb); omega) s p l c q k d (fun W w' s5 p5 l5 c5 q5 k5 d5 => XP W.heap.size w' s5 p5 l5 c5 q5 k5 d5 (A : Int) C N) (fun w' s6 p6 l6 c6 q6 k6 d6 => FP 0 w' s6 p6 l6 c6 q6 k6 d6 ((A : Int) / (C : Int)) (N + 1)) (fun w' s7 p7 l7 c7 q7 k7 d7 => XP 0 w' s7 p7 l7 c7 q7 k7 d7 ((A : Int) * ((1 : Nat) : Int) - (A : Int) / (C : Int) * (C : Int)) (C * 1) (2 * (N + (N + 2)) + 3)) (fun w' s8 p8 l8 c8 q8 k8 d8 => XP 0 w' s8 p8 l8 c8 q8 k8 d8 1 2 20) (fun w' s9 p9 l9 c9 q9 k9 d9 => XP 0 w' s9 p9 l9 c9 q9 k9 d9 1 1 1500) (fun W w' s3 p3 l3 c3 q3 k3 d3 => XP W.heap.size w' s3 p3 l3 c3 q3 k3 d3 (stV 5 C (A : Int)) C (5 * N + 4000)) (fun W w' s4 p4 l4 c4 q4 k4 d4 => XP W.heap.size w' s4 p4 l4 c4 q4 k4 d4 (stV 5 C (-(A : Int))) C (5 * N + 4000)) w (fun W g => xsign_ _ C N (by omega) s p l c q k d B1 W (h.kp g)) (fun W g => ?_) (fun W W' b s5 p5 l5 c5 q5 k5 d5 g h5 hb => ?_) (fun W W' b s5 p5 l5 c5 q5 k5 d5 U Y s6 p6 l6 c6 q6 k6 d6 h5 hb gp g h6 gu => ?_) (fun W => ?_) (fun U W s7 p7 l7 c7 q7 k7 d7 s8 p8 l8 c8 q8 k8 d8 h7 gu h8 => ?_) (fun U W s6 p6 l6 c6 q6 k6 d6 h6 gu => ?_) (fun U W s6 p6 l6 c6 q6 k6 d6 h6 gu => ?_) (fun W g => ?_) (fun U W s6 p6 l6 c6 q6 k6 d6 s9 p9 l9 c9 q9 k9 d9 h6 gu h9 => ?_) (fun W W5 b s3 p3 l3 c3 q3 k3 d3 g hq hb => ?_)).mono ?_
  · refine (xneg_ _ C N (by omega) s p l c q k d B1 W (h.kp g)).mono ?_
    rintro e w' ⟨s5, p5, l5, c5, q5, k5, d5, rfl, hp, g1⟩
    rw [Int.neg_neg] at hp
    exact ⟨s5, p5, l5, c5, q5, k5, d5, rfl, hp, g1⟩
  · have h5' := (((h5).set (x := ⟨b, 0, none⟩) hb (.bool s5)).set (x := ⟨b, 1, none⟩) hb (.slice p5 l5 c5)).set (x := ⟨b, 2, none⟩) hb (.slice q5 k5 d5)
    refine (floorX_ _ C N (by omega) s5 p5 l5 c5 q5 k5 d5 W.heap.size _ h5').mono ?_
    rintro e w' ⟨s6, p6, l6, c6, q6, k6, d6, rfl, hf, g1⟩
    exact ⟨s6, p6, l6, c6, q6, k6, d6, rfl, hf.mono (Nat.zero_le _), g1⟩
  · have h5' := (((h5).set (x := ⟨b, 0, none⟩) hb (.bool s5)).set (x := ⟨b, 1, none⟩) hb (.slice p5 l5 c5)).set (x := ⟨b, 2, none⟩) hb (.slice q5 k5 d5)
    refine (xsub_ _ _ C 1 N (N + 2) (by omega) s5 p5 l5 c5 q5 k5 d5 s6 p6 l6 c6 q6 k6 d6 W.heap.size _ Y (h5'.kp gp) (h6.kp gu).xp).mono ?_
    rintro e w' ⟨s7, p7, l7, c7, q7, k7, d7, rfl, hp, g1⟩
    exact ⟨s7, p7, l7, c7, q7, k7, d7, rfl, hp.mono (Nat.zero_le _), g1⟩
  · refine (halfX_ W).mono ?_
    rintro e w' ⟨s8, p8, l8, c8, q8, k8, d8, rfl, hp, g1⟩
    exact ⟨s8, p8, l8, c8, q8, k8, d8, rfl, hp.mono (Nat.zero_le _), g1⟩
  · have hx := xcmp_ 0 0 _ _ _ _ _ _ (by omega) (by omega) s7 p7 l7 c7 q7 k7 d7 s8 p8 l8 c8 q8 k8 d8 W (h7.kp gu) h8
    rw [ecm] at hx
    exact hx
  · obtain ⟨z1, z2⟩ := ha _ W s6 p6 l6 c6 q6 k6 d6 (h6.kp gu)
    have hx := bitX_ p6 l6 c6 (A / C) W z1 (by omega)
    rw [hb] at hx
    exact hx
  · obtain ⟨z1, z2⟩ := ha _ W s6 p6 l6 c6 q6 k6 d6 (h6.kp gu)
    refine (lenR _ (A / C) W z1 (by omega)).mono ?_
    rintro e w' ⟨rfl, rfl⟩
    exact ⟨rfl, Kp.refl _⟩
  · refine (int1X_ W).mono ?_
    rintro e w' ⟨s9, p9, l9, c9, q9, k9, d9, rfl, hp, g1⟩
    exact ⟨s9, p9, l9, c9, q9, k9, d9, rfl, hp.mono (Nat.zero_le _), g1⟩
  · refine (xadd_ _ _ 1 1 (N + 2) 1500 (by omega) s6 p6 l6 c6 q6 k6 d6 s9 p9 l9 c9 q9 k9 d9 _ 0 W (h6.kp gu).xp h9).mono ?_
    rintro e w' ⟨s3, p3, l3, c3, q3, k3, d3, rfl, hp, g1⟩
    exact ⟨s3, p3, l3, c3, q3, k3, d3, rfl, hp.as _ C _ hc (by rw [eS, eQ]; simp) (by omega), g1⟩
  · have hq' := (((hq).set (x := ⟨b, 0, none⟩) hb (.bool s3)).set (x := ⟨b, 1, none⟩) hb (.slice p3 l3 c3)).set (x := ⟨b, 2, none⟩) hb (.slice q3 k3 d3)
    refine (xneg_ _ C (5 * N + 4000) (by omega) s3 p3 l3 c3 q3 k3 d3 W.heap.size _ hq').mono ?_
    rintro e w' ⟨s4, p4, l4, c4, q4, k4, d4, rfl, hp, g1⟩
    rw [eS, ← eT] at hp
    exact ⟨s4, p4, l4, c4, q4, k4, d4, rfl, hp, g1⟩
  · rintro e w' ⟨W, wh, s4, p4, l4, c4, q4, k4, d4, rfl, hq, rfl, hlt, g⟩
    exact ⟨s4, p4, l4, c4, q4, k4, d4, rfl, XP.mono ((((hq).set (x := ⟨w.heap.size + 1, 0, none⟩) hlt (.bool s4)).set (x := ⟨w.heap.size + 1, 1, none⟩) hlt (.slice p4 l4 c4)).set (x := ⟨w.heap.size + 1, 2, none⟩) hlt (.slice q4 k4 d4)) (by omega), (((g).setCell (by simp) _).setCell (by simp) _).setCell (by simp) _⟩
theorem stX4_ (V : Int) (C N : Nat) (hN : N ≤ 15000) (s : Bool) (p : Option Addr) (l c : Nat) (q : Option Addr) (k d : Nat) (B1 : Nat) (w : World) (h : XP B1 w s p l c q k d V C N) : Calls Try.prog 32 #[.int .i64 4, .agg #[.bool s, .slice p l c, .slice q k d]] w fun e w' => ∃ (s3 : Bool) (p3 : Option Addr) (l3 c3 : Nat) (q3 : Option Addr) (k3 d3 : Nat), e = .returned (.agg #[.bool s3, .slice p3 l3 c3, .slice q3 k3 d3]) ∧ XP w.heap.size w' s3 p3 l3 c3 q3 k3 d3 (stV 4 C V) C (5 * N + 4000) ∧ Kp w w' := by
  by_cases ng : V < 0
  · rcases Nat.lt_trichotomy (2 * (V.natAbs % C)) C with cc | cc | cc
    · rcases Nat.mod_two_eq_zero_or_one (V.natAbs / C) with hb | hb
      · exact xq4m0_ V C N (by omega) s p l c q k d B1 w h ng cc hb
      · exact xq4m1_ V C N (by omega) s p l c q k d B1 w h ng cc hb
    · rcases Nat.mod_two_eq_zero_or_one (V.natAbs / C) with hb | hb
      · exact xq400_ V C N (by omega) s p l c q k d B1 w h ng cc hb
      · exact xq401_ V C N (by omega) s p l c q k d B1 w h ng cc hb
    · rcases Nat.mod_two_eq_zero_or_one (V.natAbs / C) with hb | hb
      · exact xq410_ V C N (by omega) s p l c q k d B1 w h ng cc hb
      · exact xq411_ V C N (by omega) s p l c q k d B1 w h ng cc hb
  · rcases Nat.lt_trichotomy (2 * (V.natAbs % C)) C with cc | cc | cc
    · rcases Nat.mod_two_eq_zero_or_one (V.natAbs / C) with hb | hb
      · exact xp4m0_ V C N (by omega) s p l c q k d B1 w h ng cc hb
      · exact xp4m1_ V C N (by omega) s p l c q k d B1 w h ng cc hb
    · rcases Nat.mod_two_eq_zero_or_one (V.natAbs / C) with hb | hb
      · exact xp400_ V C N (by omega) s p l c q k d B1 w h ng cc hb
      · exact xp401_ V C N (by omega) s p l c q k d B1 w h ng cc hb
    · rcases Nat.mod_two_eq_zero_or_one (V.natAbs / C) with hb | hb
      · exact xp410_ V C N (by omega) s p l c q k d B1 w h ng cc hb
      · exact xp411_ V C N (by omega) s p l c q k d B1 w h ng cc hb
theorem stX5_ (V : Int) (C N : Nat) (hN : N ≤ 15000) (s : Bool) (p : Option Addr) (l c : Nat) (q : Option Addr) (k d : Nat) (B1 : Nat) (w : World) (h : XP B1 w s p l c q k d V C N) : Calls Try.prog 32 #[.int .i64 5, .agg #[.bool s, .slice p l c, .slice q k d]] w fun e w' => ∃ (s3 : Bool) (p3 : Option Addr) (l3 c3 : Nat) (q3 : Option Addr) (k3 d3 : Nat), e = .returned (.agg #[.bool s3, .slice p3 l3 c3, .slice q3 k3 d3]) ∧ XP w.heap.size w' s3 p3 l3 c3 q3 k3 d3 (stV 5 C V) C (5 * N + 4000) ∧ Kp w w' := by
  by_cases ng : V < 0
  · rcases Nat.lt_trichotomy (2 * (V.natAbs % C)) C with cc | cc | cc
    · rcases Nat.mod_two_eq_zero_or_one (V.natAbs / C) with hb | hb
      · exact xq5m0_ V C N (by omega) s p l c q k d B1 w h ng cc hb
      · exact xq5m1_ V C N (by omega) s p l c q k d B1 w h ng cc hb
    · rcases Nat.mod_two_eq_zero_or_one (V.natAbs / C) with hb | hb
      · exact xq500_ V C N (by omega) s p l c q k d B1 w h ng cc hb
      · exact xq501_ V C N (by omega) s p l c q k d B1 w h ng cc hb
    · rcases Nat.mod_two_eq_zero_or_one (V.natAbs / C) with hb | hb
      · exact xq510_ V C N (by omega) s p l c q k d B1 w h ng cc hb
      · exact xq511_ V C N (by omega) s p l c q k d B1 w h ng cc hb
  · rcases Nat.lt_trichotomy (2 * (V.natAbs % C)) C with cc | cc | cc
    · rcases Nat.mod_two_eq_zero_or_one (V.natAbs / C) with hb | hb
      · exact xp5m0_ V C N (by omega) s p l c q k d B1 w h ng cc hb
      · exact xp5m1_ V C N (by omega) s p l c q k d B1 w h ng cc hb
    · rcases Nat.mod_two_eq_zero_or_one (V.natAbs / C) with hb | hb
      · exact xp500_ V C N (by omega) s p l c q k d B1 w h ng cc hb
      · exact xp501_ V C N (by omega) s p l c q k d B1 w h ng cc hb
    · rcases Nat.mod_two_eq_zero_or_one (V.natAbs / C) with hb | hb
      · exact xp510_ V C N (by omega) s p l c q k d B1 w h ng cc hb
      · exact xp511_ V C N (by omega) s p l c q k d B1 w h ng cc hb
namespace Fq
theorem eqInP (a c : Nat) (w : World) : (Op.equalIn 9999 26 (.float .f64 a) (.float .f64 c)).run Try.prog w = .ok (FloatKind.f64.format.order a c == some Ordering.eq) w := by kernel_rfl
set_option maxRecDepth 20000 in
set_option maxHeartbeats 1000000 in
theorem voidP_ (a b : Nat) (ha : a < 18446744073709551616) (hb : b < 18446744073709551616) (w : World) : Calls Try.prog 34 #[.agg #[.float .f64 a, .float .f64 b]] w fun e w' => e = .returned (.bool (decide (a = 9218868437227405312 ∧ b = 18442240474082181120))) ∧ Grown w w' := by
  have t2 := feqI a ha
  have t3 := feqM b hb
  have e1 : (decide (a = 9218868437227405312 ∧ b = 18442240474082181120)) = ((FloatKind.f64.format.order a 9218868437227405312 == some Ordering.eq) && (FloatKind.f64.format.order b 18442240474082181120 == some Ordering.eq)) := by
    rw [t2, t3]; by_cases c1 : a = 9218868437227405312 <;> by_cases c2 : b = 18442240474082181120 <;> simp [c1, c2]
  rw [e1]
  clear e1 t2 t3 ha hb
  have h0 := eqInP a 9218868437227405312
  have h1 := eqInP b 18442240474082181120
  generalize g1 : (FloatKind.f64.format.order a 9218868437227405312 == some Ordering.eq) = B1 at h0 ⊢
  generalize g2 : (FloatKind.f64.format.order b 18442240474082181120 == some Ordering.eq) = B2 at h1 ⊢
  cases B1 <;> cases B2
  · go_enter Try.func34, Try.ntmps34
    go_wp2
    go_region_held3 (fun w' => w'.cell? ⟨w.heap.size, 0, none⟩ = some (.float .f64 a) ∧ w'.cell? ⟨w.heap.size, 1, none⟩ = some (.float .f64 b)) (simp [go_sem, World.cell?_alloc_past]) (first | (go_at_call 56; refine (empty6_ _).mono ?_; rintro e w' ⟨rfl, rfl⟩))
    go_wp2
    exact bodyPost_ret (v := .bool false) (by simp [results, Try.results34, go_sem] <;> simp only [*]) rfl ⟨rfl, (by repeat (with_reducible (first | assumption | exact Grown.refl _ | apply Grown.drew | apply Grown.alloc | apply gdrewN | (refine Grown.setCell ?_ (by simp <;> omega) _) | (refine gtrans ?_ (by assumption)))))⟩
  · go_enter Try.func34, Try.ntmps34
    go_wp2
    go_region_held3 (fun w' => w'.cell? ⟨w.heap.size, 0, none⟩ = some (.float .f64 a) ∧ w'.cell? ⟨w.heap.size, 1, none⟩ = some (.float .f64 b)) (simp [go_sem, World.cell?_alloc_past]) (first | (go_at_call 56; refine (empty6_ _).mono ?_; rintro e w' ⟨rfl, rfl⟩))
    go_wp2
    exact bodyPost_ret (v := .bool false) (by simp [results, Try.results34, go_sem] <;> simp only [*]) rfl ⟨rfl, (by repeat (with_reducible (first | assumption | exact Grown.refl _ | apply Grown.drew | apply Grown.alloc | apply gdrewN | (refine Grown.setCell ?_ (by simp <;> omega) _) | (refine gtrans ?_ (by assumption)))))⟩
  · go_enter Try.func34, Try.ntmps34
    go_wp2
    go_region_held3 (fun w' => w'.cell? ⟨w.heap.size, 0, none⟩ = some (.float .f64 a) ∧ w'.cell? ⟨w.heap.size, 1, none⟩ = some (.float .f64 b)) (simp [go_sem, World.cell?_alloc_past]) (first | (go_at_call 56; refine (empty6_ _).mono ?_; rintro e w' ⟨rfl, rfl⟩))
    go_wp2
    exact bodyPost_ret (v := .bool false) (by simp [results, Try.results34, go_sem] <;> simp only [*]) rfl ⟨rfl, (by repeat (with_reducible (first | assumption | exact Grown.refl _ | apply Grown.drew | apply Grown.alloc | apply gdrewN | (refine Grown.setCell ?_ (by simp <;> omega) _) | (refine gtrans ?_ (by assumption)))))⟩
  · go_enter Try.func34, Try.ntmps34
    go_wp2
    go_region_held3 (fun w' => w'.cell? ⟨w.heap.size, 0, none⟩ = some (.float .f64 a) ∧ w'.cell? ⟨w.heap.size, 1, none⟩ = some (.float .f64 b)) (simp [go_sem, World.cell?_alloc_past]) (first | (go_at_call 56; refine (empty6_ _).mono ?_; rintro e w' ⟨rfl, rfl⟩))
    go_wp2
    exact bodyPost_ret (v := .bool true) (by simp [results, Try.results34, go_sem] <;> simp only [*]) rfl ⟨rfl, (by repeat (with_reducible (first | assumption | exact Grown.refl _ | apply Grown.drew | apply Grown.alloc | apply gdrewN | (refine Grown.setCell ?_ (by simp <;> omega) _) | (refine gtrans ?_ (by assumption)))))⟩
end Fq
theorem half_up (X h : Nat) (hh : 0 < h) : (X + h) / (2 * h) = X / (2 * h) + (decide (2 * h ≤ 2 * (X % (2 * h)))).toNat := by
  have e := Nat.div_add_mod X (2 * h)
  have r := Nat.mod_lt X (show 0 < 2 * h by omega)
  generalize X / (2 * h) = q at *
  generalize X % (2 * h) = t at *
  by_cases c : 2 * h ≤ 2 * t
  · rw [decide_eq_true c, ← e, show 2 * h * q + t + h = (t - h) + 2 * h * (q + 1) from by rw [Nat.mul_add]; omega, Nat.add_mul_div_left _ _ (by omega), Nat.div_eq_of_lt (by omega)]
    simp
  · rw [decide_eq_false c, ← e, show 2 * h * q + t + h = (t + h) + 2 * h * q from by omega, Nat.add_mul_div_left _ _ (by omega), Nat.div_eq_of_lt (by omega)]
    simp
theorem vV_parts (m : Nat) : Fq.vV Ieee.double m = if m < 4503599627370496 then m else (4503599627370496 + m % 4503599627370496) * 2 ^ (m / 4503599627370496 - 1) := by
  unfold Fq.vV Fq.mM Fq.eE
  rw [Fq.binD]
  by_cases c : m < 4503599627370496
  · rw [if_pos c, if_pos c, if_pos c, Nat.pow_zero, Nat.mul_one]
  · rw [if_neg c, if_neg c, if_neg c]
def awR (m : Nat) : Nat := if m / 4503599627370496 < 1023 then (if m / 4503599627370496 = 1022 then 4607182418800017408 else 0) else if m / 4503599627370496 < 1075 then (m + 2 ^ (1074 - m / 4503599627370496)) / 2 ^ (1075 - m / 4503599627370496) * 2 ^ (1075 - m / 4503599627370496) else m
theorem away_rung (K : Nat) (hK : K = 1074) (n : Bool) (m : Nat) (hm : m ≤ 9218868437227405312) : cR K 5 n m = awR m := by
  have hb5 : ∀ (s : Bool) (q r U : Nat), bmp 5 s q r U = decide (U ≤ 2 * r) := fun s q r U => by
    unfold bmp; rw [if_neg (by decide), if_neg (by decide), if_neg (by decide), if_neg (by decide)]
  unfold cR awR
  by_cases ci : m = 9218868437227405312
  · rw [if_pos ci, ci]; rfl
  rw [if_neg ci]
  have hV := vV_parts m
  obtain ⟨e, he⟩ : ∃ e, e = m / 4503599627370496 := ⟨_, rfl⟩
  obtain ⟨f, hf⟩ : ∃ f, f = m % 4503599627370496 := ⟨_, rfl⟩
  have hfl : f < 4503599627370496 := by rw [hf]; exact Nat.mod_lt _ (by decide)
  have hme : m = e * 4503599627370496 + f := by omega
  rw [← he, ← hf] at hV
  rw [← he]
  by_cases cA : e < 1023
  · rw [if_pos cA]
    have hup : Fq.vV Ieee.double m < 9007199254740992 * 2 ^ (e - 1) := by
      rw [hV]
      by_cases c : m < 4503599627370496
      · rw [if_pos c]
        have := Nat.two_pow_pos (e - 1)
        have := Nat.mul_le_mul_left 9007199254740992 (show 1 ≤ 2 ^ (e - 1) from this)
        omega
      · rw [if_neg c]
        exact Nat.mul_lt_mul_of_pos_right (by omega) (Nat.two_pow_pos _)
    by_cases cB : e = 1022
    · rw [if_pos cB]
      have hlo : 2 ^ K ≤ 2 * Fq.vV Ieee.double m := by
        rw [hV, if_neg (by omega)]
        have h1 : 4503599627370496 * 2 ^ (e - 1) ≤ (4503599627370496 + f) * 2 ^ (e - 1) := Nat.mul_le_mul_right _ (by omega)
        have h2 : 2 ^ K = 2 * (4503599627370496 * 2 ^ (e - 1)) := by
          rw [show (4503599627370496 : Nat) = 2 ^ 52 from by decide, ← Nat.pow_add, show 2 * 2 ^ (52 + (e - 1)) = 2 ^ (52 + (e - 1) + 1) from by rw [Nat.pow_succ, Nat.mul_comm]]
          congr 1; omega
        omega
      have hhi : Fq.vV Ieee.double m < 2 ^ K := by
        refine Nat.lt_of_lt_of_le hup ?_
        rw [show (9007199254740992 : Nat) = 2 ^ 53 from by decide, ← Nat.pow_add]
        exact Nat.pow_le_pow_right (by decide) (by omega)
      have hq : cutN 5 n (Fq.vV Ieee.double m) (2 ^ K) = 1 := by
        unfold cutN
        rw [Nat.div_eq_of_lt hhi, Nat.mod_eq_of_lt hhi, hb5, decide_eq_true hlo]; rfl
      rw [hq, Nat.one_mul, ← vV_one K hK]
      exact rg_vV _ (by decide)
    · rw [if_neg cB]
      have hhi : 2 * Fq.vV Ieee.double m < 2 ^ K := by
        have h1 : 2 * (9007199254740992 * 2 ^ (e - 1)) ≤ 2 ^ K := by
          rw [show (9007199254740992 : Nat) = 2 ^ 53 from by decide, ← Nat.pow_add, show 2 * 2 ^ (53 + (e - 1)) = 2 ^ (53 + (e - 1) + 1) from by rw [Nat.pow_succ, Nat.mul_comm]]
          exact Nat.pow_le_pow_right (by decide) (by omega)
        omega
      have hq : cutN 5 n (Fq.vV Ieee.double m) (2 ^ K) = 0 := by
        unfold cutN
        rw [Nat.div_eq_of_lt (show Fq.vV Ieee.double m < 2 ^ K by omega), Nat.mod_eq_of_lt (show Fq.vV Ieee.double m < 2 ^ K by omega), hb5, decide_eq_false (by omega)]; rfl
      rw [hq, Nat.zero_mul]; exact rgU0
  · rw [if_neg cA]
    rw [if_neg (show ¬ m < 4503599627370496 by omega)] at hV
    by_cases cB : e < 1075
    · rw [if_pos cB]
      obtain ⟨s, hs⟩ : ∃ s, s = 1075 - e := ⟨_, rfl⟩
      rw [← hs, show 1074 - e = s - 1 from by omega]
      obtain ⟨h, hh⟩ : ∃ h, h = 2 ^ (s - 1) := ⟨_, rfl⟩
      have hhp : 0 < h := by rw [hh]; exact Nat.two_pow_pos _
      have h2h : 2 ^ s = 2 * h := by rw [hh, show s = s - 1 + 1 from by omega, Nat.pow_succ, Nat.add_sub_cancel, Nat.mul_comm]
      obtain ⟨c, hc⟩ : ∃ c, c = 2 ^ (52 - s) := ⟨_, rfl⟩
      have hdc : 4503599627370496 = 2 * h * c := by
        rw [← h2h, hc, ← Nat.pow_add, show s + (52 - s) = 52 from by omega]
      obtain ⟨P, hP⟩ : ∃ P, P = 2 ^ (e - 1) := ⟨_, rfl⟩
      have hPp : 0 < P := by rw [hP]; exact Nat.two_pow_pos _
      have hU : 2 ^ K = 2 * h * P := by
        rw [← h2h, hP, ← Nat.pow_add]; congr 1; omega
      obtain ⟨X, hX⟩ : ∃ X, X = 4503599627370496 + f := ⟨_, rfl⟩
      obtain ⟨q, hq⟩ : ∃ q, q = (X + h) / (2 * h) := ⟨_, rfl⟩
      have hcut : cutN 5 n (Fq.vV Ieee.double m) (2 ^ K) = q := by
        rw [hV, ← hX, ← hP, hU, cutN_scale _ _ _ _ _ hPp, hq, half_up X h hhp]
        unfold cutN
        rw [hb5]
      have hqT : q * (2 * h) ≤ X + h ∧ X < q * (2 * h) + h := by
        have d := Nat.div_add_mod (X + h) (2 * h)
        have r := Nat.mod_lt (X + h) (show 0 < 2 * h by omega)
        rw [← hq, Nat.mul_comm] at d
        omega
      have hG1 : 4503599627370496 ≤ q * (2 * h) := by
        have g : c ≤ q := by
          rw [hq, Nat.le_div_iff_mul_le (show 0 < 2 * h by omega), Nat.mul_comm, ← hdc]; omega
        have := Nat.mul_le_mul_right (2 * h) g
        rw [Nat.mul_comm c, ← hdc] at this
        exact this
      have hG2 : q * (2 * h) ≤ 9007199254740992 := by
        have g : q < 2 * c + 1 := by
          rw [hq, Nat.div_lt_iff_lt_mul (show 0 < 2 * h by omega), Nat.add_mul, Nat.mul_assoc, Nat.mul_comm c, ← hdc]; omega
        have := Nat.mul_le_mul_right (2 * h) (show q ≤ 2 * c by omega)
        rw [Nat.mul_assoc, Nat.mul_comm c, ← hdc] at this
        omega
      have hm' : (m + h) / (2 * h) * (2 * h) = (e - 1) * 4503599627370496 + q * (2 * h) := by
        have a : m + h = (X + h) + 2 * h * (c * (e - 1)) := by
          rw [← Nat.mul_assoc, ← hdc, hX]; omega
        rw [a, Nat.add_mul_div_left _ _ (show 0 < 2 * h by omega), ← hq, Nat.add_mul]
        have b : c * (e - 1) * (2 * h) = (e - 1) * 4503599627370496 := by rw [hdc]; ac_rfl
        rw [b]; omega
      have hv' := vV_place (e - 1) (q * (2 * h)) (by rw [show (2 : Nat) ^ 53 = 9007199254740992 from by decide]; exact hG2) (Or.inr (by rw [show (2 : Nat) ^ (53 - 1) = 4503599627370496 from by decide]; exact hG1))
      rw [show (2 : Nat) ^ (53 - 1) = 4503599627370496 from by decide] at hv'
      have eq : q * 2 ^ K = q * (2 * h) * 2 ^ (e - 1) := by rw [hU, hP, ← Nat.mul_assoc q]
      have bd : (e - 1) * 4503599627370496 + q * (2 * h) < 9218868437227405312 := by
        generalize q * (2 * h) = G at *
        clear hV hv' hm' hcut eq hqT hU hdc h2h hq hX hP hc hh hhp hPp
        omega
      have fin := rg_vV _ bd
      rw [hv'] at fin
      rw [hcut, ← hh, h2h, hm', eq]
      exact fin
    · rw [if_neg cB]
      have a : Fq.vV Ieee.double m = (4503599627370496 + f) * 2 ^ (e - 1 - K) * 2 ^ K := by
        rw [hV, Nat.mul_assoc, ← Nat.pow_add]; congr 2; omega
      have b := cutN_mul 5 n ((4503599627370496 + f) * 2 ^ (e - 1 - K)) (2 ^ K) (Nat.two_pow_pos K)
      rw [← a] at b
      rw [b, ← a]
      exact rg_vV m (by omega)
end Go.Proofs.Ytbbmoaiilnfmgaa
