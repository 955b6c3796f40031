import Derived.Test.YteedfmghgkmofaaGreatDoorProg
import Derived.Laws.Bits64b
import Derived.RowKit
namespace Go.Proofs.YteedfmghgkmofaaGreatDoor
open Go.RowKit
def wv : List Nat → Nat
  | [] => 0
  | x :: xs => x + 18446744073709551616 * wv xs
def Wf (ws : List Nat) : Prop := ∀ j, ws.getD j 0 < 18446744073709551616
theorem wv_set (ws : List Nat) : ∀ (k x : Nat), k < ws.length → wv (ws.set k x) + ws.getD k 0 * 18446744073709551616 ^ k = wv ws + x * 18446744073709551616 ^ k := by
  induction ws with
  | nil => intro k x h; simp at h
  | cons y ys ih =>
    intro k x h
    cases k with
    | zero => simp [wv]; omega
    | succ k =>
      have e := ih k x (by simpa using h)
      simp only [List.set_cons_succ, wv, List.getD_cons_succ, Nat.pow_succ]
      generalize 18446744073709551616 ^ k = P at *
      have e2 := congrArg (fun z => 18446744073709551616 * z) e
      simp only [Nat.mul_add] at e2
      rw [show ys.getD k 0 * (P * 18446744073709551616) = 18446744073709551616 * (ys.getD k 0 * P) by rw [← Nat.mul_assoc, Nat.mul_comm], show x * (P * 18446744073709551616) = 18446744073709551616 * (x * P) by rw [← Nat.mul_assoc, Nat.mul_comm]]
      omega
theorem Wf.cons {x : Nat} {xs : List Nat} (h : Wf (x :: xs)) : x < 18446744073709551616 ∧ Wf xs := by
  refine ⟨by simpa using h 0, fun j => ?_⟩
  have := h (j + 1)
  simpa using this
theorem Wf.set {ws : List Nat} (h : Wf ws) (k x : Nat) (hx : x < 18446744073709551616) : Wf (ws.set k x) := by
  intro j
  by_cases c : k = j
  · subst c
    by_cases d : k < ws.length
    · simpa [List.getD, List.getElem?_set, d] using hx
    · simp [List.getD, d]
  · have := h j; simpa [List.getD, List.getElem?_set, c] using this
theorem wv_lt (ws : List Nat) (h : Wf ws) : wv ws < 18446744073709551616 ^ ws.length := by
  induction ws with
  | nil => simp [wv]
  | cons x xs ih =>
    have hc := h.cons
    have := ih hc.2
    simp only [wv, List.length_cons, Nat.pow_succ]
    generalize 18446744073709551616 ^ xs.length = P at *
    omega
theorem wv_take_succ (ws : List Nat) : ∀ (i : Nat), i < ws.length → wv (ws.take (i + 1)) = wv (ws.take i) + ws.getD i 0 * 18446744073709551616 ^ i := by
  induction ws with
  | nil => intro i h; simp at h
  | cons y ys ih =>
    intro i h
    cases i with
    | zero => simp [wv]
    | succ i =>
      have e := ih i (by simpa using h)
      simp only [List.take_succ_cons, wv, List.getD_cons_succ, Nat.pow_succ] at e ⊢
      rw [e, Nat.mul_add]
      generalize 18446744073709551616 ^ i = P
      rw [show ys.getD i 0 * (P * 18446744073709551616) = 18446744073709551616 * (ys.getD i 0 * P) by rw [← Nat.mul_assoc, Nat.mul_comm]]
      omega
theorem take_set_self (ws : List Nat) (i x : Nat) : (ws.set i x).take i = ws.take i := by
  apply List.ext_getElem?
  intro j
  by_cases c : j < i
  · have : i ≠ j := by omega
    simp [c, this]
  · simp [List.getElem?_take, c]
theorem getD_set_self (ws : List Nat) (i x : Nat) (h : i < ws.length) : (ws.set i x).getD i 0 = x := by simp [List.getD, h]
theorem getD_set_ne (ws : List Nat) (i j x : Nat) (h : i ≠ j) : (ws.set i x).getD j 0 = ws.getD j 0 := by simp [List.getD, h]
def wm : Nat := 18446744073709551616 ^ 67
def Rep (ws : List Nat) (V : Int) : Prop := ws.length = 67 ∧ Wf ws ∧ ∃ k : Int, ((wv ws : Nat) : Int) = V + k * (wm : Int)
theorem Wf.zero (n : Nat) : Wf (List.replicate n 0) := by
  intro j
  by_cases c : j < n
  · simp [List.getD, c]
  · simp [List.getD, c]
theorem wv_zero (n : Nat) : wv (List.replicate n 0) = 0 := by
  induction n with
  | zero => rfl
  | succ n ih => rw [List.replicate_succ]; simp [wv, ih]
theorem Rep.zero : Rep (List.replicate 67 0) 0 := by
  refine ⟨List.length_replicate, Wf.zero _, 0, ?_⟩
  rw [wv_zero]; simp
def Lay (ws0 ws : List Nat) (sg : Int) (k c : Nat) (S : Nat) : Prop := ws.length = 67 ∧ Wf ws ∧ c ≤ 1 ∧ ((wv ws : Nat) : Int) + sg * ((18446744073709551616 ^ k * c : Nat) : Int) = ((wv ws0 : Nat) : Int) + sg * (S : Int)
theorem Lay.start {ws : List Nat} {sg : Int} (k : Nat) (h : ws.length = 67) (hf : Wf ws) : Lay ws ws sg k 0 0 := ⟨h, hf, by omega, by simp⟩
theorem Lay.next {ws0 ws : List Nat} {sg : Int} {k c S : Nat} (h : Lay ws0 ws sg k c S) (hk : k < 67) (p x c2 : Nat) (hx : x < 18446744073709551616) (hc2 : c2 ≤ 1) (e : (x : Int) + sg * 18446744073709551616 * (c2 : Int) = ((ws.getD k 0 : Nat) : Int) + sg * ((p : Int) + (c : Int))) :
    Lay ws0 (ws.set k x) sg (k + 1) c2 (S + p * 18446744073709551616 ^ k) := by
  obtain ⟨h1, h2, h3, h4⟩ := h
  refine ⟨by simpa using h1, h2.set k x hx, hc2, ?_⟩
  have q := wv_set ws k x (by omega)
  have q2 : ((wv (ws.set k x) : Nat) : Int) + ((ws.getD k 0 : Nat) : Int) * ((18446744073709551616 ^ k : Nat) : Int) = ((wv ws : Nat) : Int) + (x : Int) * ((18446744073709551616 ^ k : Nat) : Int) := by exact_mod_cast q
  rw [Nat.pow_succ]
  generalize 18446744073709551616 ^ k = P at *
  generalize wv (ws.set k x) = A at *
  generalize wv ws = B at *
  generalize wv ws0 = C at *
  generalize ws.getD k 0 = y at *
  simp only [Int.natCast_mul, Int.natCast_add] at *
  clear q h2 hx
  have e2 : ((x : Int) + sg * 18446744073709551616 * (c2 : Int)) * (P : Int) = ((y : Int) + sg * ((p : Int) + (c : Int))) * (P : Int) := by rw [e]
  clear e
  grind
theorem Lay.next0 {ws0 ws : List Nat} {sg : Int} {k c S : Nat} (h : Lay ws0 ws sg k c S) (hk : k < 67) (x c2 : Nat) (hx : x < 18446744073709551616) (hc2 : c2 ≤ 1) (e : (x : Int) + sg * 18446744073709551616 * (c2 : Int) = ((ws.getD k 0 : Nat) : Int) + sg * (((0 : Nat) : Int) + (c : Int))) : Lay ws0 (ws.set k x) sg (k + 1) c2 S := by
  have q := h.next hk 0 x c2 hx hc2 e
  rw [Nat.zero_mul, Nat.add_zero] at q
  exact q
theorem Lay.quick {ws0 ws : List Nat} {sg : Int} {k S : Nat} (h : Lay ws0 ws sg k 0 S) (k2 : Nat) : Lay ws0 ws sg k2 0 S := by
  obtain ⟨h1, h2, h3, h4⟩ := h
  exact ⟨h1, h2, h3, by simpa using h4⟩
theorem Lay.rep {ws0 ws : List Nat} {sg : Int} {c S : Nat} {V : Int} (h : Lay ws0 ws sg 67 c S) (h0 : Rep ws0 V) : Rep ws (V + sg * (S : Int)) := by
  obtain ⟨h1, h2, h3, h4⟩ := h
  obtain ⟨g1, g2, k, g3⟩ := h0
  refine ⟨h1, h2, k - sg * (c : Int), ?_⟩
  rw [g3] at h4
  have e : ((18446744073709551616 ^ 67 * c : Nat) : Int) = (wm : Int) * (c : Int) := by rw [Int.natCast_mul]; rfl
  rw [e] at h4
  rw [Int.sub_mul]
  have e2 : sg * ((wm : Int) * (c : Int)) = sg * (c : Int) * (wm : Int) := by rw [Int.mul_comm (wm : Int), ← Int.mul_assoc]
  rw [e2] at h4
  generalize sg * (c : Int) * (wm : Int) = X at *
  generalize k * (wm : Int) = Y at *
  omega
theorem step_plus (y p c : Nat) : (((y + p + c) % 18446744073709551616 : Nat) : Int) + 1 * 18446744073709551616 * (((y + p + c) / 18446744073709551616 : Nat) : Int) = (y : Int) + 1 * ((p : Int) + (c : Int)) := by omega
theorem step_minus (y p c : Nat) (hy : y < 18446744073709551616) : ((18446744073709551615 - (18446744073709551615 - y + p + c) % 18446744073709551616 : Nat) : Int) + (-1) * 18446744073709551616 * (((18446744073709551615 - y + p + c) / 18446744073709551616 : Nat) : Int) = (y : Int) + (-1) * ((p : Int) + (c : Int)) := by omega
theorem step_c (y p c : Nat) (hy : y < 18446744073709551616) (hp : p < 18446744073709551616) (hc : c ≤ 1) : (y + p + c) / 18446744073709551616 ≤ 1 := by omega
theorem parts3 (h l u : Nat) : l * 2 ^ u % 18446744073709551616 + (h * 2 ^ u % 18446744073709551616 + l * 2 ^ u / 18446744073709551616) * 18446744073709551616 + (h * 2 ^ u / 18446744073709551616) * (18446744073709551616 * 18446744073709551616) = (h * 18446744073709551616 + l) * 2 ^ u := by
  rw [Nat.add_mul (h * 18446744073709551616), show h * 18446744073709551616 * 2 ^ u = h * 2 ^ u * 18446744073709551616 by rw [Nat.mul_right_comm]]
  generalize h * 2 ^ u = A
  generalize l * 2 ^ u = B
  omega
/-! the two's complement -/
def wh : Nat := 9223372036854775808 * 18446744073709551616 ^ 66
theorem wm_wh : wm = 2 * wh := by
  unfold wm wh
  rw [show (67 : Nat) = 66 + 1 from rfl, Nat.pow_succ]
theorem wv_top (ws : List Nat) (hl : ws.length = 67) (hf : Wf ws) : (9223372036854775808 ≤ ws.getD 66 0 ↔ wh ≤ wv ws) := by
  have e := wv_take_succ ws 66 (by omega)
  rw [List.take_of_length_le (by omega)] at e
  have l := wv_lt (ws.take 66) (fun j => by
    by_cases c : j < 66
    · have := hf j; simpa [List.getD, List.getElem?_take, c] using this
    · simp [List.getD, List.getElem?_take, c])
  rw [List.length_take, hl, show min 66 67 = 66 from rfl] at l
  rw [e]
  unfold wh
  generalize 18446744073709551616 ^ 66 = P at *
  generalize wv (ws.take 66) = A at *
  generalize ws.getD 66 0 = y
  constructor
  · intro h
    have := Nat.mul_le_mul_right P h
    omega
  · intro h
    apply Classical.byContradiction
    intro c
    have := Nat.mul_le_mul_right P (show y + 1 ≤ 9223372036854775808 by omega)
    rw [Nat.add_mul] at this
    omega
theorem Rep.val {ws : List Nat} {V : Int} (h : Rep ws V) (b : V.natAbs < wh) : ((wv ws : Nat) : Int) = if V < 0 then V + (wm : Int) else V := by
  obtain ⟨h1, h2, k, h3⟩ := h
  have l := wv_lt ws h2
  rw [h1] at l
  have l2 : wv ws < wm := l
  have e := wm_wh
  have k0 : k = if V < 0 then 1 else 0 := by
    by_cases c : V < 0
    · rw [if_pos c]
      rcases Int.lt_trichotomy k 1 with hk | hk | hk
      · have := Int.mul_le_mul_of_nonneg_right (show k ≤ 0 by omega) (show (0 : Int) ≤ (wm : Int) by omega)
        omega
      · exact hk
      · have := Int.mul_le_mul_of_nonneg_right (show 2 ≤ k by omega) (show (0 : Int) ≤ (wm : Int) by omega)
        omega
    · rw [if_neg c]
      rcases Int.lt_trichotomy k 0 with hk | hk | hk
      · have := Int.mul_le_mul_of_nonneg_right (show k ≤ -1 by omega) (show (0 : Int) ≤ (wm : Int) by omega)
        omega
      · exact hk
      · have := Int.mul_le_mul_of_nonneg_right (show 1 ≤ k by omega) (show (0 : Int) ≤ (wm : Int) by omega)
        omega
  rw [h3, k0]
  by_cases c : V < 0
  · rw [if_pos c, if_pos c]; omega
  · rw [if_neg c, if_neg c]; omega
theorem Rep.below {ws : List Nat} {V : Int} (h : Rep ws V) (b : V.natAbs < wh) : (9223372036854775808 ≤ ws.getD 66 0 ↔ V < 0) := by
  rw [wv_top ws h.1 h.2.1]
  have e := h.val b
  have e2 := wm_wh
  by_cases c : V < 0
  · rw [if_pos c] at e; omega
  · rw [if_neg c] at e; omega
theorem wv_eq_zero (ws : List Nat) (h : wv ws = 0) : ws = List.replicate ws.length 0 := by
  induction ws with
  | nil => rfl
  | cons x xs ih =>
    simp only [wv] at h
    rw [List.length_cons, List.replicate_succ, ← ih (by omega), show x = 0 by omega]
theorem Rep.iszero {ws : List Nat} {V : Int} (h : Rep ws V) (b : V.natAbs < wh) : (ws = List.replicate 67 0 ↔ V = 0) := by
  have e := h.val b
  have e2 := wm_wh
  constructor
  · intro c
    rw [c, wv_zero] at e
    by_cases c2 : V < 0
    · rw [if_pos c2] at e; omega
    · rw [if_neg c2] at e; omega
  · intro c
    rw [c, if_neg (by omega)] at e
    have := wv_eq_zero ws (by omega)
    rw [h.1] at this
    exact this
theorem Rep.plus {a b z : List Nat} {V U : Int} {c : Nat} (ha : Rep a V) (hb : Rep b U) (hl : z.length = 67) (hf : Wf z) (e : wv z + c * wm = wv a + wv b) : Rep z (V + U) := by
  obtain ⟨_, _, k, h3⟩ := ha
  obtain ⟨_, _, m, h4⟩ := hb
  refine ⟨hl, hf, k + m - (c : Int), ?_⟩
  have e2 : ((wv z : Nat) : Int) + (c : Int) * (wm : Int) = ((wv a : Nat) : Int) + ((wv b : Nat) : Int) := by exact_mod_cast e
  rw [h3, h4] at e2
  rw [Int.sub_mul, Int.add_mul]
  generalize k * (wm : Int) = X at *
  generalize m * (wm : Int) = Y at *
  generalize (c : Int) * (wm : Int) = Z at *
  omega
theorem Rep.turned {a z : List Nat} {V : Int} {c : Nat} (ha : Rep a V) (hl : z.length = 67) (hf : Wf z) (e : wv z + c * wm + wv a = wm) : Rep z (-V) := by
  obtain ⟨_, _, k, h3⟩ := ha
  refine ⟨hl, hf, 1 - (c : Int) - k, ?_⟩
  have e2 : ((wv z : Nat) : Int) + (c : Int) * (wm : Int) + ((wv a : Nat) : Int) = (wm : Int) := by exact_mod_cast e
  rw [h3] at e2
  rw [Int.sub_mul, Int.sub_mul, Int.one_mul]
  generalize k * (wm : Int) = X at *
  generalize (c : Int) * (wm : Int) = Z at *
  omega
def Plu (a b z : List Nat) (i c : Nat) : Prop := z.length = 67 ∧ Wf z ∧ c ≤ 1 ∧ wv (z.take i) + c * 18446744073709551616 ^ i = wv (a.take i) + wv (b.take i) ∧ ∀ j, i ≤ j → z.getD j 0 = a.getD j 0
theorem Plu.start {a b : List Nat} (h : a.length = 67) (hf : Wf a) : Plu a b a 0 0 := ⟨h, hf, by omega, by simp [wv], fun _ _ => rfl⟩
theorem Plu.next {a b z : List Nat} {i c : Nat} (h : Plu a b z i c) (ha : a.length = 67) (hb : b.length = 67) (hfa : Wf a) (hfb : Wf b) (hi : i < 67) : Plu a b (z.set i ((a.getD i 0 + b.getD i 0 + c) % 18446744073709551616)) (i + 1) ((a.getD i 0 + b.getD i 0 + c) / 18446744073709551616) := by
  obtain ⟨h1, h2, h3, h4, h5⟩ := h
  refine ⟨by simpa using h1, h2.set _ _ (Nat.mod_lt _ (by decide)), step_c _ _ _ (hfa i) (hfb i) h3, ?_, fun j hj => ?_⟩
  · rw [wv_take_succ _ i (by simpa [h1] using hi), take_set_self, getD_set_self _ _ _ (by omega), wv_take_succ a i (by omega), wv_take_succ b i (by omega), Nat.pow_succ]
    have e := Nat.mod_add_div (a.getD i 0 + b.getD i 0 + c) 18446744073709551616
    generalize 18446744073709551616 ^ i = P at *
    generalize (a.getD i 0 + b.getD i 0 + c) % 18446744073709551616 = r at *
    generalize (a.getD i 0 + b.getD i 0 + c) / 18446744073709551616 = q at *
    generalize a.getD i 0 = x at *
    generalize b.getD i 0 = y at *
    clear h5 h2
    have e2 : (r + 18446744073709551616 * q) * P = (x + y + c) * P := by rw [e]
    simp only [Nat.add_mul] at e2
    have e3 : q * (P * 18446744073709551616) = 18446744073709551616 * q * P := by rw [Nat.mul_comm P, ← Nat.mul_assoc, Nat.mul_comm q]
    rw [e3]
    generalize r * P = t1 at *
    generalize 18446744073709551616 * q * P = t2 at *
    generalize x * P = t3 at *
    generalize y * P = t4 at *
    generalize c * P = t5 at *
    omega
  · rw [getD_set_ne _ _ _ _ (by omega)]; exact h5 j (by omega)
theorem Plu.rep {a b z : List Nat} {c : Nat} {V U : Int} (h : Plu a b z 67 c) (ha : Rep a V) (hb : Rep b U) : Rep z (V + U) := by
  obtain ⟨h1, h2, h3, h4, h5⟩ := h
  rw [List.take_of_length_le (by omega), List.take_of_length_le (by rw [ha.1]; omega), List.take_of_length_le (by rw [hb.1]; omega)] at h4
  exact Rep.plus ha hb h1 h2 h4
def Trn (a z : List Nat) (i c : Nat) : Prop := z.length = 67 ∧ Wf z ∧ c ≤ 1 ∧ wv (z.take i) + c * 18446744073709551616 ^ i + wv (a.take i) = 18446744073709551616 ^ i ∧ ∀ j, i ≤ j → z.getD j 0 = a.getD j 0
theorem Trn.start {a : List Nat} (h : a.length = 67) (hf : Wf a) : Trn a a 0 1 := ⟨h, hf, by omega, by simp [wv], fun _ _ => rfl⟩
theorem Trn.next {a z : List Nat} {i c : Nat} (h : Trn a z i c) (ha : a.length = 67) (hfa : Wf a) (hi : i < 67) : Trn a (z.set i ((18446744073709551615 - a.getD i 0 + 0 + c) % 18446744073709551616)) (i + 1) ((18446744073709551615 - a.getD i 0 + 0 + c) / 18446744073709551616) := by
  obtain ⟨h1, h2, h3, h4, h5⟩ := h
  refine ⟨by simpa using h1, h2.set _ _ (Nat.mod_lt _ (by decide)), step_c _ _ _ (by omega) (by omega) h3, ?_, fun j hj => ?_⟩
  · rw [wv_take_succ _ i (by simpa [h1] using hi), take_set_self, getD_set_self _ _ _ (by omega), wv_take_succ a i (by omega), Nat.pow_succ]
    have f := hfa i
    have e := Nat.mod_add_div (18446744073709551615 - a.getD i 0 + 0 + c) 18446744073709551616
    generalize 18446744073709551616 ^ i = P at *
    generalize (18446744073709551615 - a.getD i 0 + 0 + c) % 18446744073709551616 = r at *
    generalize (18446744073709551615 - a.getD i 0 + 0 + c) / 18446744073709551616 = q at *
    generalize a.getD i 0 = x at *
    clear h5 h2
    have e1 : r + 18446744073709551616 * q + x = 18446744073709551615 + c := by omega
    have e2 : (r + 18446744073709551616 * q + x) * P = (18446744073709551615 + c) * P := by rw [e1]
    simp only [Nat.add_mul] at e2
    have e3 : q * (P * 18446744073709551616) = 18446744073709551616 * q * P := by rw [Nat.mul_comm P, ← Nat.mul_assoc, Nat.mul_comm q]
    rw [e3]
    generalize r * P = t1 at *
    generalize 18446744073709551616 * q * P = t2 at *
    generalize x * P = t3 at *
    generalize c * P = t5 at *
    omega
  · rw [getD_set_ne _ _ _ _ (by omega)]; exact h5 j (by omega)
theorem Trn.rep {a z : List Nat} {c : Nat} {V : Int} (h : Trn a z 67 c) (ha : Rep a V) : Rep z (-V) := by
  obtain ⟨h1, h2, h3, h4, h5⟩ := h
  rw [List.take_of_length_le (by omega), List.take_of_length_le (by rw [ha.1]; omega)] at h4
  exact Rep.turned ha h1 h2 h4
end Go.Proofs.YteedfmghgkmofaaGreatDoor
