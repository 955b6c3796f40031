import Derived.Test.YtbcjhmdkpkmieaaKPKp
namespace Go.Proofs.Ytbcjhmdkpkmieaa
open Go.RowKit
open Go
namespace B8
theorem snd_pla (a b : Nat) (ha : a < 18446744073709551616) (hb : b < 18446744073709551616) : Fq.snd (Fq.pla a) (Fq.pla b) = Fq.snd a b := by
  have key : ∀ x : Nat, x < 18446744073709551616 → ∃ n m n2, m < 9223372036854775808 ∧ x = Fq.wD n m ∧ Fq.pla x = Fq.wD n2 m ∧ Fq.plz n m = Fq.plz n2 m ∧ (n2 = n ∨ m = 0) := by
    intro x hx
    obtain ⟨n, m, hm, rfl⟩ := Fq.exD x hx
    by_cases c : Fq.wD n m = 9223372036854775808
    · have h : n = true ∧ m = 0 := by
        unfold Fq.wD at c
        cases n <;> simp at c <;> simp <;> omega
      refine ⟨n, m, false, hm, rfl, ?_, ?_, Or.inr h.2⟩
      · unfold Fq.pla; rw [if_pos c, h.2]; rfl
      · rw [h.1, h.2]; rfl
    · exact ⟨n, m, n, hm, rfl, by unfold Fq.pla; rw [if_neg c], rfl, Or.inl rfl⟩
  obtain ⟨n, m, n2, hm, e1, e2, e3, e4⟩ := key a ha
  obtain ⟨n', m', n2', hm', e1', e2', e3', e4'⟩ := key b hb
  rw [e2, e2', e1, e1', Fq.snd_w n2 n2' m m' hm hm', Fq.snd_w n n' m m' hm hm', e3, e3']
  rcases e4 with rfl | rfl <;> rcases e4' with rfl | rfl <;> simp
theorem pla_lt (a : Nat) (ha : a < 18446744073709551616) : Fq.pla a < 18446744073709551616 := by unfold Fq.pla; split <;> omega
theorem pla_eq (a k : Nat) (h0 : k ≠ 0) (hT : k ≠ 9223372036854775808) : Fq.pla a = k ↔ a = k := by
  unfold Fq.pla
  split <;> omega
theorem rd_snd (a b : Nat) (L H : Int) (h : Rd a b L H) : Fq.snd a b = !decide (L = 9218868437227405312) := by
  have e1 := h.2.2.2.1
  have hL := pw_inj L 9218868437227405312 h.vd.lo (by unfold BdZ; omega)
  rw [pw_I] at hL
  by_cases c : Fq.snd a b = true
  · have n1 : a ≠ 9218868437227405312 := by intro hh; rw [hh] at c; simp [Fq.snd] at c
    have e : Fq.rlo a b = Fq.pla a := by simp [Fq.rlo, c]
    rw [c, decide_eq_false (fun hh => n1 ((pla_eq a 9218868437227405312 (by decide) (by decide)).1 (by rw [← e, e1, hh]; exact pw_I)))]; rfl
  · have c : Fq.snd a b = false := by simpa using c
    have e : Fq.rlo a b = 9218868437227405312 := by simp [Fq.rlo, c]
    rw [c, decide_eq_true (hL.1 (by rw [← e1, e]))]; rfl
theorem rd_pla (a b : Nat) (L H : Int) (h : Rd a b L H) (c : L ≠ 9218868437227405312) : Fq.pla a = pw L ∧ Fq.pla b = pw H := by
  have hs := rd_snd a b L H h
  rw [decide_eq_false c] at hs
  have e1 := h.2.2.2.1
  have e2 := h.2.2.2.2
  rw [← e1, ← e2]
  simp [Fq.rlo, Fq.rhi, hs]
theorem vld_pla (a b : Nat) (L H : Int) (h : Rd a b L H) : Fq.vld (Fq.pla a) (Fq.pla b) = (!decide (L = 9218868437227405312) || decide (a = 9218868437227405312 ∧ b = 18442240474082181120)) := by
  have n1 : Fq.pla a ≠ 9223372036854775808 := by unfold Fq.pla; split <;> omega
  have n2 : Fq.pla b ≠ 9223372036854775808 := by unfold Fq.pla; split <;> omega
  unfold Fq.vld
  rw [snd_pla a b h.1 h.2.1, rd_snd a b L H h, decide_eq_false n1, decide_eq_false n2, show decide (Fq.pla a = 9218868437227405312 ∧ Fq.pla b = 18442240474082181120) = decide (a = 9218868437227405312 ∧ b = 18442240474082181120) from by
    congr 1; apply propext
    rw [pla_eq a 9218868437227405312 (by decide) (by decide), pla_eq b 18442240474082181120 (by decide) (by decide)]]
  cases decide (L = 9218868437227405312) <;> cases decide (a = 9218868437227405312 ∧ b = 18442240474082181120) <;> rfl
theorem rvalid9n_ (a b : Nat) (ha : a < 18446744073709551616) (hb : b < 18446744073709551616) (w : World) : Calls Try.prog 45 #[.agg #[.int .u64 ((a : Nat) : Int), .int .u64 ((b : Nat) : Int)]] w fun e w' => e = .returned (.bool (Fq.vld a b)) ∧ Kp w w' := by
  obtain ⟨n, m, hm, rfl⟩ := Fq.exD a ha
  obtain ⟨n', m', hm', rfl⟩ := Fq.exD b hb
  exact Fq.rvalid_ n n' m m' hm hm' w
theorem isinfn_ (a : Nat) (ha : a < 18446744073709551616) (w : World) : Calls Try.prog 64 #[.int .u64 ((a : Nat) : Int)] w fun e w' => e = .returned (.bool (decide (a = 9218868437227405312 ∨ a = 18442240474082181120))) ∧ w' = w := by
  obtain ⟨n, m, hm, rfl⟩ := Fq.exD a ha
  have h := isinf6_ n m hm w
  rw [show decide (m = 9218868437227405312) = decide (Fq.wD n m = 9218868437227405312 ∨ Fq.wD n m = 18442240474082181120) from by
    congr 1; apply propext
    unfold Fq.wD
    cases n <;> simp <;> omega] at h
  exact h
def vdD (a b : Nat) (D : Int) : Bool := decide (a = 9218868437227405312 ∧ b = 18442240474082181120 ∧ D = 0) || (Fq.vld a b && (decide (D = 4) || (!(decide (a = 9218868437227405312 ∧ b = 18442240474082181120)) && (decide (D = 8) || decide (D = 12) || (decide (D = 16) && !(decide (a = 9218868437227405312 ∨ a = 18442240474082181120) || decide (b = 9218868437227405312 ∨ b = 18442240474082181120)))))))
theorem beqN (a k : Nat) : ((a : Int) == (k : Int)) = decide (a = k) := by
  by_cases c : a = k
  · subst c; simp
  · rw [decide_eq_false c]; simp; omega
theorem beqI (D k : Int) : (D == k) = decide (D = k) := by
  by_cases c : D = k
  · subst c; simp
  · rw [decide_eq_false c]; simpa using c
theorem twoF (D j k : Int) (h : j ≠ k) : (decide (D = j) && decide (D = k)) = false := by
  by_cases c : D = j
  · rw [decide_eq_false (fun e => h (by rw [← c, e]) : ¬ D = k), Bool.and_false]
  · rw [decide_eq_false c]; rfl
theorem rval13_ (a b : Nat) (D : Int) (ha : a < 18446744073709551616) (hb : b < 18446744073709551616) (w : World) : Calls Try.prog 47 #[.agg #[.int .u64 ((a : Nat) : Int), .int .u64 ((b : Nat) : Int), .int .i64 D]] w fun e w' => e = .returned (.bool (vdD a b D)) ∧ Kp w w' := by
  have hv := rvalid9n_ a b ha hb
  have h1 := isinfn_ a ha
  have h2 := isinfn_ b hb
  have t1 : ((a : Int) == 9218868437227405312) = decide (a = 9218868437227405312) := beqN a 9218868437227405312
  have t2 : ((b : Int) == 18442240474082181120) = decide (b = 18442240474082181120) := beqN b 18442240474082181120
  unfold vdD
  by_cases cN : a = 9218868437227405312 ∧ b = 18442240474082181120
  · by_cases c0 : D = 0
    · rw [decide_eq_true (⟨cN.1, cN.2, c0⟩ : a = 9218868437227405312 ∧ b = 18442240474082181120 ∧ D = 0), Bool.true_or]
      exact rvalA_ _ _ D (by rw [t1, decide_eq_true cN.1]) (by rw [t2, decide_eq_true cN.2]) (by rw [beqI, decide_eq_true c0]) w
    · rw [decide_eq_false (fun h => c0 h.2.2 : ¬ (a = 9218868437227405312 ∧ b = 18442240474082181120 ∧ D = 0)), Bool.false_or]
      have hvt : Fq.vld a b = true := by unfold Fq.vld; rw [decide_eq_true cN]; rfl
      rw [hvt] at hv ⊢
      rw [Bool.true_and, decide_eq_true cN]
      by_cases c4 : D = 4
      · rw [decide_eq_true c4]
        exact rvalC_ _ _ D _ _ _ rfl rfl rfl (by rw [beqI D 0, decide_eq_false c0, Bool.and_false]) hv (by rw [beqI, decide_eq_true c4]) w
      · rw [decide_eq_false c4]
        exact rvalD_ _ _ D (by rw [t1, decide_eq_true cN.1]) (by rw [t2, decide_eq_true cN.2]) (by rw [beqI, decide_eq_false c0]) hv (by rw [beqI, decide_eq_false c4]) w
  · have u : (decide (a = 9218868437227405312) && decide (b = 18442240474082181120)) = false := by
      by_cases x : a = 9218868437227405312 <;> by_cases y : b = 18442240474082181120 <;> simp [x, y]; exact cN ⟨x, y⟩
    rw [decide_eq_false (fun h => cN ⟨h.1, h.2.1⟩ : ¬ (a = 9218868437227405312 ∧ b = 18442240474082181120 ∧ D = 0)), Bool.false_or, decide_eq_false cN]
    cases hvv : Fq.vld a b
    · rw [hvv] at hv
      exact rvalB_ _ _ D _ _ _ t1 t2 rfl (by rw [u]; rfl) hv w
    · rw [hvv] at hv
      rw [Bool.true_and]
      by_cases c4 : D = 4
      · rw [decide_eq_true c4]
        exact rvalC_ _ _ D _ _ _ t1 t2 rfl (by rw [u]; rfl) hv (by rw [beqI, decide_eq_true c4]) w
      · rw [decide_eq_false c4]
        exact rvalE_ _ _ D _ _ _ t1 t2 rfl u hv (by rw [beqI, decide_eq_false c4]) _ _ _ _ _ (beqI D 8) (beqI D 12) (beqI D 16) (twoF D 8 12 (by decide)) (twoF D 8 16 (by decide)) (twoF D 12 16 (by decide)) h1 h2 w
end B8
end Go.Proofs.Ytbcjhmdkpkmieaa
