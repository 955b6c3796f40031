import Derived.Test.YteedfmghgkmofaaGreatDoorKTOa
import Derived.Test.YteedfmghgkmofaaGreatDoorKXQU
namespace Go.Proofs.YteedfmghgkmofaaGreatDoor
open Go.RowKit
theorem flipT (n : Bool) (m : Nat) (hm : m < 9223372036854775808) : Fq.wD n m ^^^ 9223372036854775808 = Fq.wD (!n) m := by
  obtain ⟨x, hx⟩ : ∃ x, x = Fq.wD n m := ⟨_, rfl⟩
  have h1 : (x ^^^ 9223372036854775808) % 2 ^ 63 = x % 2 ^ 63 := by
    rw [Nat.xor_mod_two_pow, show (9223372036854775808 : Nat) % 2 ^ 63 = 0 from by decide, Nat.xor_zero]
  have h2 : (x ^^^ 9223372036854775808) / 2 ^ 63 = x / 2 ^ 63 ^^^ 1 := by
    rw [← Nat.shiftRight_eq_div_pow, ← Nat.shiftRight_eq_div_pow, Nat.shiftRight_xor_distrib, show (9223372036854775808 : Nat) >>> 63 = 1 from by decide]
  rw [show (2 : Nat) ^ 63 = 9223372036854775808 from by decide] at h1 h2
  rw [← hx]
  generalize hz : x ^^^ 9223372036854775808 = z at h1 h2 ⊢
  clear hz
  cases n
  · have e : x = m := by rw [hx]; unfold Fq.wD; simp
    rw [e, Nat.div_eq_of_lt hm, show (0 : Nat) ^^^ 1 = 1 from by decide] at h2
    rw [e, Nat.mod_eq_of_lt hm] at h1
    unfold Fq.wD
    simp
    omega
  · have e : x = 9223372036854775808 + m := by rw [hx]; unfold Fq.wD; simp
    have e2 : x / 9223372036854775808 = 1 := by omega
    have e3 : x % 9223372036854775808 = m := by omega
    rw [e2, show (1 : Nat) ^^^ 1 = 0 from by decide] at h2
    rw [e3] at h1
    unfold Fq.wD
    simp
    omega
theorem negT (n : Bool) (m : Nat) (hm : m < 9223372036854775808) (w : World) : (Op.unary .neg (.float .f64 (Fq.wD n m))).run Tryz.prog w = .ok (.float .f64 (Fq.wD (!n) m)) w := by
  have h : Op.negFloat .f64 (Fq.wD n m) = Fq.wD (!n) m := by
    unfold Op.negFloat
    exact flipT n m hm
  rw [← h]; rfl
open Ieee in
theorem fgtT (n n' : Bool) (m m' : Nat) (h : m < 9223372036854775808) (h' : m' < 9223372036854775808) : (FloatKind.f64.format.order (Fq.wD n m) (Fq.wD n' m') == some Ordering.gt) = decide (m ≤ 9218868437227405312 ∧ m' ≤ 9218868437227405312 ∧ Fq.plz n' m' < Fq.plz n m) := by
  by_cases c : 9218868437227405312 < m
  · rw [Fq.ordD_nanl n m _ c h, decide_eq_false (by omega)]; rfl
  by_cases c' : 9218868437227405312 < m'
  · rw [Fq.ordD_nanr n' m' _ c' h', decide_eq_false (by omega)]; rfl
  rw [Fq.ordD n n' m m' (by omega) (by omega)]
  rcases Int.lt_trichotomy (Fq.plz n m) (Fq.plz n' m') with g | g | g
  · rw [Fq.cmp_lt g, decide_eq_false (by omega)]; rfl
  · rw [Fq.cmp_eq g, decide_eq_false (by omega)]; rfl
  · rw [Fq.cmp_gt g, decide_eq_true ⟨by omega, by omega, by omega⟩]; rfl

theorem ordT (n : Bool) (m : Nat) (hm : m < 9223372036854775808) : (FloatKind.f64.format.order (Fq.wD n m) (Fq.wD n m) != some .eq) = decide (9218868437227405312 < m) := by
  by_cases c : 9218868437227405312 < m
  · rw [Fq.ordD_nanl n m _ c hm, decide_eq_true c]; rfl
  · rw [Fq.ordD n n m m (by omega) (by omega), Fq.cmp_eq rfl, decide_eq_false c]; rfl
def tS (n : Bool) (m : Nat) : Int := if 9218868437227405312 < m then 2 else if m = 9218868437227405312 then (if n then -1 else 1) else 0
set_option maxRecDepth 20000 in
set_option maxHeartbeats 400000 in
theorem isNaNT_ (n : Bool) (m : Nat) (hm : m < 9223372036854775808) (w : World) : Calls Tryz.prog 100 #[.float .f64 (Fq.wD n m)] w fun e w' => e = .returned (.bool (decide (9218868437227405312 < m))) ∧ w' = w := by
  have o1 := ordT n m hm
  obtain ⟨X, hX⟩ : ∃ X, X = Fq.wD n m := ⟨_, rfl⟩
  rw [← hX] at o1 ⊢
  clear hX
  go_enter Tryz.func100, Tryz.ntmps100
  go_wp2
  exact bodyPost_ret (v := .bool (decide (9218868437227405312 < m))) (by simp [results, Tryz.results100, go_sem]) rfl ⟨rfl, rfl⟩
set_option maxRecDepth 20000 in
set_option maxHeartbeats 400000 in
theorem isInf1_ (n : Bool) (m : Nat) (hm : m < 9223372036854775808) (w : World) : Calls Tryz.prog 101 #[.float .f64 (Fq.wD n m), .int .i64 1] w fun e w' => e = .returned (.bool (decide (m = 9218868437227405312 ∧ n = false))) ∧ w' = w := by
  have t := fgtT n false m 9218868437227405311 hm (by decide)
  rw [show Fq.wD false 9218868437227405311 = 9218868437227405311 from rfl, show decide (m ≤ 9218868437227405312 ∧ 9218868437227405311 ≤ 9218868437227405312 ∧ Fq.plz false 9218868437227405311 < Fq.plz n m) = decide (m = 9218868437227405312 ∧ n = false) from by congr 1; apply propext; unfold Fq.plz; cases n <;> simp <;> omega] at t
  generalize Fq.wD n m = X at *
  generalize decide (m = 9218868437227405312 ∧ n = false) = V at *
  go_enter Tryz.func101, Tryz.ntmps101
  go_wp2
  exact bodyPost_ret (v := .bool V) (by simp [results, Tryz.results101, go_sem] <;> simpa using t) rfl ⟨rfl, rfl⟩
set_option maxRecDepth 20000 in
set_option maxHeartbeats 400000 in
theorem isInfM_ (n : Bool) (m : Nat) (hm : m < 9223372036854775808) (w : World) : Calls Tryz.prog 101 #[.float .f64 (Fq.wD n m), .int .i64 (-1)] w fun e w' => e = .returned (.bool (decide (m = 9218868437227405312 ∧ n = true))) ∧ w' = w := by
  have t := fgtT (!n) false m 9218868437227405311 hm (by decide)
  have hneg := negT n m hm
  rw [show Fq.wD false 9218868437227405311 = 9218868437227405311 from rfl, show decide (m ≤ 9218868437227405312 ∧ 9218868437227405311 ≤ 9218868437227405312 ∧ Fq.plz false 9218868437227405311 < Fq.plz (!n) m) = decide (m = 9218868437227405312 ∧ n = true) from by congr 1; apply propext; unfold Fq.plz; cases n <;> simp <;> omega] at t
  generalize Fq.wD n m = X at *
  generalize Fq.wD (!n) m = Y at *
  generalize decide (m = 9218868437227405312 ∧ n = true) = V at *
  go_enter Tryz.func101, Tryz.ntmps101
  go_wp2
  exact bodyPost_ret (v := .bool V) (by simp [results, Tryz.results101, go_sem] <;> simpa using t) rfl ⟨rfl, rfl⟩
set_option maxRecDepth 20000 in
set_option maxHeartbeats 400000 in
theorem stateOf_ (n : Bool) (m : Nat) (hm : m < 9223372036854775808) (w : World) : Calls Tryz.prog 58 #[.float .f64 (Fq.wD n m)] w fun e w' => e = .returned (.int .i64 (tS n m)) ∧ w' = w := by
  have h1 := isNaNT_ n m hm
  have h2 := isInf1_ n m hm
  have h3 := isInfM_ n m hm
  unfold tS
  generalize Fq.wD n m = X at *
  by_cases c1 : 9218868437227405312 < m
  · rw [if_pos c1]
    rw [decide_eq_true c1] at h1
    clear c1 hm h2 h3
    go_enter Tryz.func58, Tryz.ntmps58
    go_wp2_with (first | (go_at_call 100; refine (h1 _).mono ?_; rintro e w' ⟨rfl, hw'⟩; obtain rfl := hw'.symm; clear hw') | (go_at_call_of 101 (Value.int IntKind.i64 1); refine (h2 _).mono ?_; rintro e w' ⟨rfl, hw'⟩; obtain rfl := hw'.symm; clear hw') | (go_at_call 101; refine (h3 _).mono ?_; rintro e w' ⟨rfl, hw'⟩; obtain rfl := hw'.symm; clear hw'))
    exact bodyPost_ret (v := .int .i64 2) (by simp [results, Tryz.results58, go_sem]) rfl ⟨rfl, rfl⟩
  · rw [if_neg c1]
    rw [decide_eq_false c1] at h1
    by_cases c2 : m = 9218868437227405312
    · rw [if_pos c2]
      cases n
      · rw [decide_eq_true ⟨c2, rfl⟩] at h2
        clear c1 hm h3 c2
        go_enter Tryz.func58, Tryz.ntmps58
        go_wp2_with (first | (go_at_call 100; refine (h1 _).mono ?_; rintro e w' ⟨rfl, hw'⟩; obtain rfl := hw'.symm; clear hw') | (go_at_call_of 101 (Value.int IntKind.i64 1); refine (h2 _).mono ?_; rintro e w' ⟨rfl, hw'⟩; obtain rfl := hw'.symm; clear hw') | (go_at_call 101; refine (h3 _).mono ?_; rintro e w' ⟨rfl, hw'⟩; obtain rfl := hw'.symm; clear hw'))
        exact bodyPost_ret (v := .int .i64 1) (by simp [results, Tryz.results58, go_sem]) rfl ⟨rfl, rfl⟩
      · rw [decide_eq_false (by simp)] at h2
        rw [decide_eq_true ⟨c2, rfl⟩] at h3
        clear c1 hm c2
        go_enter Tryz.func58, Tryz.ntmps58
        go_wp2_with (first | (go_at_call 100; refine (h1 _).mono ?_; rintro e w' ⟨rfl, hw'⟩; obtain rfl := hw'.symm; clear hw') | (go_at_call_of 101 (Value.int IntKind.i64 1); refine (h2 _).mono ?_; rintro e w' ⟨rfl, hw'⟩; obtain rfl := hw'.symm; clear hw') | (go_at_call 101; refine (h3 _).mono ?_; rintro e w' ⟨rfl, hw'⟩; obtain rfl := hw'.symm; clear hw'))
        exact bodyPost_ret (v := .int .i64 (-1)) (by simp [results, Tryz.results58, go_sem]) rfl ⟨rfl, rfl⟩
    · rw [if_neg c2]
      rw [decide_eq_false (fun h => c2 h.1)] at h2 h3
      clear c1 hm c2
      go_enter Tryz.func58, Tryz.ntmps58
      go_wp2_with (first | (go_at_call 100; refine (h1 _).mono ?_; rintro e w' ⟨rfl, hw'⟩; obtain rfl := hw'.symm; clear hw') | (go_at_call_of 101 (Value.int IntKind.i64 1); refine (h2 _).mono ?_; rintro e w' ⟨rfl, hw'⟩; obtain rfl := hw'.symm; clear hw') | (go_at_call 101; refine (h3 _).mono ?_; rintro e w' ⟨rfl, hw'⟩; obtain rfl := hw'.symm; clear hw'))
      exact bodyPost_ret (v := .int .i64 0) (by simp [results, Tryz.results58, go_sem]) rfl ⟨rfl, rfl⟩
def jn (a b : Int) : Int := if a = 0 then b else if b = 0 ∨ a = b then a else 2
set_option maxRecDepth 20000 in
set_option maxHeartbeats 400000 in
theorem joined_ (a b : Int) (w : World) : Calls Tryz.prog 99 #[.int .i64 a, .int .i64 b] w fun e w' => e = .returned (.int .i64 (jn a b)) ∧ w' = w := by
  unfold jn
  by_cases c1 : a = 0
  · rw [if_pos c1]
    subst c1
    go_enter Tryz.func99, Tryz.ntmps99
    go_wp2
    exact bodyPost_ret (v := .int .i64 b) (by simp [results, Tryz.results99, go_sem]) rfl ⟨rfl, rfl⟩
  · rw [if_neg c1]
    by_cases c2 : b = 0
    · subst c2
      rw [if_pos (Or.inl rfl)]
      go_enter Tryz.func99, Tryz.ntmps99
      go_wp2
      exact bodyPost_ret (v := .int .i64 a) (by simp [results, Tryz.results99, go_sem]) rfl ⟨rfl, rfl⟩
    · by_cases c3 : a = b
      · subst c3
        rw [if_pos (Or.inr rfl)]
        go_enter Tryz.func99, Tryz.ntmps99
        go_wp2
        exact bodyPost_ret (v := .int .i64 a) (by simp [results, Tryz.results99, go_sem]) rfl ⟨rfl, rfl⟩
      · rw [if_neg (by omega)]
        have t1 : (a == 0) = false := by simpa using c1
        have t2 : (b == 0) = false := by simpa using c2
        have t3 : (a == b) = false := by simpa using c3
        go_enter Tryz.func99, Tryz.ntmps99
        go_wp2
        exact bodyPost_ret (v := .int .i64 2) (by simp [results, Tryz.results99, go_sem]) rfl ⟨rfl, rfl⟩

def Sb (w : World) (b : Nat) (ws : List Nat) (k : Nat) (s : Int) : Prop := ws.length = 67 ∧ Bk w b (wc ws ++ #[.int .u64 (k : Int), .int .i64 s]) 54
theorem Sb.terms {w : World} {b : Nat} {ws : List Nat} {k : Nat} {s : Int} (h : Sb w b ws k s) : w.cell? ⟨b, 67, none⟩ = some (.int .u64 (k : Int)) := by
  rw [h.2.cell, Array.getElem?_append_right (by rw [wc_size, h.1]; exact Nat.le_refl _), wc_size, h.1]; rfl
theorem Sb.state {w : World} {b : Nat} {ws : List Nat} {k : Nat} {s : Int} (h : Sb w b ws k s) : w.cell? ⟨b, 68, none⟩ = some (.int .i64 s) := by
  rw [h.2.cell, Array.getElem?_append_right (by rw [wc_size, h.1]; decide), wc_size, h.1]; rfl
theorem Sb.setTerms {w : World} {b : Nat} {ws : List Nat} {k : Nat} {s : Int} (h : Sb w b ws k s) (k' : Nat) : Sb (w.setCell ⟨b, 67, none⟩ (.int .u64 (k' : Int))) b ws k' s := by
  refine ⟨h.1, ?_⟩
  have q := h.2.put 67 (.int .u64 (k' : Int))
  rwa [Array.setIfInBounds_append_right (by rw [wc_size, h.1]; exact Nat.le_refl _), wc_size, h.1] at q
theorem Sb.setState {w : World} {b : Nat} {ws : List Nat} {k : Nat} {s : Int} (h : Sb w b ws k s) (s' : Int) : Sb (w.setCell ⟨b, 68, none⟩ (.int .i64 s')) b ws k s' := by
  refine ⟨h.1, ?_⟩
  have q := h.2.put 68 (.int .i64 s')
  rwa [Array.setIfInBounds_append_right (by rw [wc_size, h.1]; decide), wc_size, h.1] at q
def grS (k : Nat) (s : Int) : Int := if 4611686018427387904 < k then 2 else s
set_option maxRecDepth 20000 in
set_option maxHeartbeats 600000 in
theorem grow_ (b : Nat) (ws : List Nat) (k t : Nat) (s s2 : Int) (w : World) (h : Sb w b ws k s) : Calls Tryz.prog 56 #[.pointer (some ⟨b, 0, none⟩), .int .u64 (t : Int), .int .i64 s2] w fun e w' => (∃ v, e = .returned v) ∧ Sb w' b ws ((k + t) % 18446744073709551616) (grS ((k + t) % 18446744073709551616) (jn s s2)) ∧ Kb b w w' := by
  have hj := joined_ s s2
  have c1 := h.state
  have f1 := h.2.frozen 68
  have h1 := h.setState (jn s s2)
  have k1 := (Kb.refl b w).setCell 68 (.int .i64 (jn s s2))
  generalize jn s s2 = S at *
  have c2 := h1.terms
  have f2 := h1.2.frozen 67
  have e1 : IntKind.u64.wrap ((k : Int) + (t : Int)) = (((k + t) % 18446744073709551616 : Nat) : Int) := by rw [IntKind.wrap_u64]; omega
  generalize (k + t) % 18446744073709551616 = K at *
  have h2 := h1.setTerms K
  have k2 := k1.setCell 67 (.int .u64 (K : Int))
  have c3 := h2.terms
  have f3 := h2.2.frozen 68
  have c4 := h2.state
  unfold grS
  by_cases cK : 4611686018427387904 < K
  · rw [if_pos cK]
    have h3 := h2.setState 2
    have k3 := k2.setCell 68 (.int .i64 2)
    have d1 : (4611686018427387904 : Int) < (K : Int) := by omega
    clear cK
    go_enter Tryz.func56, Tryz.ntmps56
    go_wp2_with (first | (go_at_call 99; refine (hj _).mono ?_; rintro e w' ⟨rfl, hw'⟩; obtain rfl := hw'.symm; clear hw'))
    exact bodyPost_end (v := .tuple #[]) (by kernel_rfl) rfl ⟨⟨_, rfl⟩, h3, k3⟩
  · rw [if_neg cK]
    have d1 : ¬ ((4611686018427387904 : Int) < (K : Int)) := by omega
    clear cK
    go_enter Tryz.func56, Tryz.ntmps56
    go_wp2_with (first | (go_at_call 99; refine (hj _).mono ?_; rintro e w' ⟨rfl, hw'⟩; obtain rfl := hw'.symm; clear hw'))
    exact bodyPost_end (v := .tuple #[]) (by kernel_rfl) rfl ⟨⟨_, rfl⟩, h2, k2⟩
end Go.Proofs.YteedfmghgkmofaaGreatDoor
