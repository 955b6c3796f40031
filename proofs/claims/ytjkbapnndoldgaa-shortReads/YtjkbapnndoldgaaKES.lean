import Derived.Test.YtjkbapnndoldgaaKER
namespace Go.Proofs.Ytjkbapnndoldgaa
open Go.RowKit
namespace Fq
set_option maxRecDepth 20000 in
set_option maxHeartbeats 400000 in
theorem rempty_ (w : World) : Calls Try.prog 43 #[] w fun e w' => e = .returned (.agg #[.int .u64 9218868437227405312, .int .u64 18442240474082181120]) ∧ w' = w.alloc (.cells #[.int .u64 9218868437227405312, .int .u64 18442240474082181120] 36) := by
  go_enter Try.func43, Try.ntmps43
  go_wp2
  exact bodyPost_ret (v := .agg #[.int .u64 9218868437227405312, .int .u64 18442240474082181120]) (by simp [results, Try.results43, go_sem] <;> simp only [*]) rfl ⟨rfl, rfl⟩
set_option maxRecDepth 20000 in
set_option maxHeartbeats 1000000 in
theorem sound_ (n n' : Bool) (m m' : Nat) (hm : m < 9223372036854775808) (hm' : m' < 9223372036854775808) (w : World) : Calls Try.prog 57 #[.agg #[.int .u64 (((wD n m) : Nat) : Int), .int .u64 (((wD n' m') : Nat) : Int)]] w fun e w' => e = .returned (.bool (snd (wD n m) (wD n' m'))) ∧ w' = w.alloc (.cells #[.int .u64 (((wD n m) : Nat) : Int), .int .u64 (((wD n' m') : Nat) : Int)] 36) := by
  have hn := isnan6_ n m hm
  have hn' := isnan6_ n' m' hm'
  have ha := above6_ n n' m m' hm hm'
  have es := snd_w n n' m m' hm hm'
  have e1 : (wD n m = 9218868437227405312) ↔ (n = false ∧ m = 9218868437227405312) := by unfold wD; cases n <;> simp; omega
  have e2 : (wD n' m' = 18442240474082181120) ↔ (n' = true ∧ m' = 9218868437227405312) := by unfold wD; cases n' <;> simp <;> omega
  obtain ⟨X, hX⟩ : ∃ X, X = wD n m := ⟨_, rfl⟩
  obtain ⟨Y, hY⟩ : ∃ Y, Y = wD n' m' := ⟨_, rfl⟩
  rw [← hX] at hn ha es e1 ⊢
  rw [← hY] at hn' ha es e2 ⊢
  clear hX hY
  rw [es]
  by_cases c1 : 9218868437227405312 < m
  · rw [decide_eq_true c1] at hn
    rw [decide_eq_false (by omega)]
    clear c1 es e1 e2 hm hm' hn' ha
    go_enter Try.func57, Try.ntmps57
    go_wp2_with (first | (go_at_call_of 67 (Value.int .u64 (X : Int)); refine (hn _).mono ?_; rintro e w' ⟨rfl, rfl⟩))
    exact bodyPost_ret (v := .bool false) (by simp [results, Try.results57, go_sem] <;> simp only [*]) rfl ⟨rfl, rfl⟩
  rw [decide_eq_false c1] at hn
  by_cases c2 : 9218868437227405312 < m'
  · rw [decide_eq_true c2] at hn'
    rw [decide_eq_false (by omega)]
    clear c1 c2 es e1 e2 hm hm' ha
    go_enter Try.func57, Try.ntmps57
    go_wp2_with (first | (go_at_call_of 67 (Value.int .u64 (X : Int)); refine (hn _).mono ?_; rintro e w' ⟨rfl, rfl⟩) | (go_at_call_of 67 (Value.int .u64 (Y : Int)); refine (hn' _).mono ?_; rintro e w' ⟨rfl, rfl⟩))
    exact bodyPost_ret (v := .bool false) (by simp [results, Try.results57, go_sem] <;> simp only [*]) rfl ⟨rfl, rfl⟩
  rw [decide_eq_false c2] at hn'
  by_cases c3 : plz n' m' < plz n m
  · rw [decide_eq_true ⟨by omega, by omega, c3⟩] at ha
    rw [decide_eq_false (by omega)]
    clear c1 c2 c3 es e1 e2 hm hm'
    go_enter Try.func57, Try.ntmps57
    go_wp2_with (first | (go_at_call_of 67 (Value.int .u64 (X : Int)); refine (hn _).mono ?_; rintro e w' ⟨rfl, rfl⟩) | (go_at_call_of 67 (Value.int .u64 (Y : Int)); refine (hn' _).mono ?_; rintro e w' ⟨rfl, rfl⟩) | (go_at_call 51; refine (ha _).mono ?_; rintro e w' ⟨rfl, rfl⟩))
    exact bodyPost_ret (v := .bool false) (by simp [results, Try.results57, go_sem] <;> simp only [*]) rfl ⟨rfl, rfl⟩
  rw [decide_eq_false (by omega)] at ha
  by_cases c4 : X = 9218868437227405312
  · have t4 : ((X : Int) != 9218868437227405312) = false := by rw [c4]; rfl
    rw [decide_eq_false (fun h => h.2.2.2.1 (e1.mp c4))]
    clear c1 c2 c3 c4 es e1 e2 hm hm'
    go_enter Try.func57, Try.ntmps57
    go_wp2_with (first | (go_at_call_of 67 (Value.int .u64 (X : Int)); refine (hn _).mono ?_; rintro e w' ⟨rfl, rfl⟩) | (go_at_call_of 67 (Value.int .u64 (Y : Int)); refine (hn' _).mono ?_; rintro e w' ⟨rfl, rfl⟩) | (go_at_call 51; refine (ha _).mono ?_; rintro e w' ⟨rfl, rfl⟩))
    exact bodyPost_ret (v := .bool false) (by simp [results, Try.results57, go_sem] <;> simp only [*]) rfl ⟨rfl, rfl⟩
  have t4 : ((X : Int) != 9218868437227405312) = true := by simp; omega
  by_cases c5 : Y = 18442240474082181120
  · have t5 : ((Y : Int) != 18442240474082181120) = false := by rw [c5]; rfl
    rw [decide_eq_false (fun h => h.2.2.2.2 (e2.mp c5))]
    clear c1 c2 c3 c4 c5 es e1 e2 hm hm'
    go_enter Try.func57, Try.ntmps57
    go_wp2_with (first | (go_at_call_of 67 (Value.int .u64 (X : Int)); refine (hn _).mono ?_; rintro e w' ⟨rfl, rfl⟩) | (go_at_call_of 67 (Value.int .u64 (Y : Int)); refine (hn' _).mono ?_; rintro e w' ⟨rfl, rfl⟩) | (go_at_call 51; refine (ha _).mono ?_; rintro e w' ⟨rfl, rfl⟩))
    exact bodyPost_ret (v := .bool false) (by simp [results, Try.results57, go_sem] <;> simp only [*]) rfl ⟨rfl, rfl⟩
  have t5 : ((Y : Int) != 18442240474082181120) = true := by simp; omega
  rw [decide_eq_true ⟨by omega, by omega, by omega, fun h => c4 (e1.mpr h), fun h => c5 (e2.mpr h)⟩]
  clear c1 c2 c3 c4 c5 es e1 e2 hm hm'
  go_enter Try.func57, Try.ntmps57
  go_wp2_with (first | (go_at_call_of 67 (Value.int .u64 (X : Int)); refine (hn _).mono ?_; rintro e w' ⟨rfl, rfl⟩) | (go_at_call_of 67 (Value.int .u64 (Y : Int)); refine (hn' _).mono ?_; rintro e w' ⟨rfl, rfl⟩) | (go_at_call 51; refine (ha _).mono ?_; rintro e w' ⟨rfl, rfl⟩))
  exact bodyPost_ret (v := .bool true) (by simp [results, Try.results57, go_sem] <;> simp only [*]) rfl ⟨rfl, rfl⟩
set_option maxRecDepth 20000 in
set_option maxHeartbeats 1000000 in
theorem rread_ (n n' : Bool) (m m' : Nat) (hm : m < 9223372036854775808) (hm' : m' < 9223372036854775808) (w : World) : Calls Try.prog 34 #[.agg #[.int .u64 (((wD n m) : Nat) : Int), .int .u64 (((wD n' m') : Nat) : Int)]] w fun e w' => e = .returned (.agg #[.int .u64 (((rlo (wD n m) (wD n' m')) : Nat) : Int), .int .u64 (((rhi (wD n m) (wD n' m')) : Nat) : Int)]) ∧ Grown w w' := by
  have hs := sound_ n n' m m' hm hm'
  have es := snd_w n n' m m' hm hm'
  have hp := rplain6_ n m
  have hp' := rplain6_ n' m'
  obtain ⟨X, hX⟩ : ∃ X, X = wD n m := ⟨_, rfl⟩
  obtain ⟨Y, hY⟩ : ∃ Y, Y = wD n' m' := ⟨_, rfl⟩
  rw [← hX] at hs es hp ⊢
  rw [← hY] at hs es hp' ⊢
  clear hX hY
  by_cases c : snd X Y = true
  · rw [c] at hs
    rw [show rlo X Y = pla X from by simp [rlo, c], show rhi X Y = pla Y from by simp [rhi, c]]
    rw [c] at es
    replace es := of_decide_eq_true es.symm
    replace hp := hp es.1
    replace hp' := hp' es.2.1
    clear es c hm hm'
    generalize ((pla X : Nat) : Int) = PX at hp ⊢
    generalize ((pla Y : Nat) : Int) = PY at hp' ⊢
    generalize (X : Int) = X at hs hp ⊢
    generalize (Y : Int) = Y at hs hp' ⊢
    go_enter Try.func34, Try.ntmps34
    go_wp2_with (first | (go_at_call 57; refine (hs _).mono ?_; rintro e w' ⟨rfl, rfl⟩))
    go_region_held3 (fun w' => w'.cell? ⟨w.heap.size, 0, none⟩ = some (.int .u64 X) ∧ w'.cell? ⟨w.heap.size, 1, none⟩ = some (.int .u64 Y)) (simp [go_sem, World.cell?_alloc_past]) (first | (go_at_call_of 58 (Value.int .u64 X); refine (hp _).mono ?_; rintro e w' ⟨rfl, rfl⟩) | (go_at_call_of 58 (Value.int .u64 Y); refine (hp' _).mono ?_; rintro e w' ⟨rfl, rfl⟩))
    go_wp2
    exact bodyPost_ret (v := .agg #[.int .u64 PX, .int .u64 PY]) (by simp [results, Try.results34, go_sem] <;> simp only [*]) rfl ⟨rfl, (by repeat (with_reducible (first | assumption | exact Grown.refl _ | apply Grown.drew | apply Grown.alloc | apply gdrewN | (refine Grown.setCell ?_ (by simp <;> omega) _) | (refine gtrans ?_ (by assumption)))))⟩
  · have c : snd X Y = false := by simpa using c
    rw [c] at hs
    rw [show rlo X Y = 9218868437227405312 from by simp [rlo, c], show rhi X Y = 18442240474082181120 from by simp [rhi, c]]
    clear es c hm hm' hp hp'
    go_enter Try.func34, Try.ntmps34
    go_wp2_with (first | (go_at_call 57; refine (hs _).mono ?_; rintro e w' ⟨rfl, rfl⟩) | (go_at_call 43; refine (rempty_ _).mono ?_; rintro e w' ⟨rfl, rfl⟩))
    exact bodyPost_ret (v := .agg #[.int .u64 9218868437227405312, .int .u64 18442240474082181120]) (by simp [results, Try.results34, go_sem] <;> simp only [*]) rfl ⟨rfl, (by repeat (with_reducible (first | assumption | exact Grown.refl _ | apply Grown.drew | apply Grown.alloc | apply gdrewN | (refine Grown.setCell ?_ (by simp <;> omega) _) | (refine gtrans ?_ (by assumption)))))⟩
end Fq
end Go.Proofs.Ytjkbapnndoldgaa
