import Derived.Test.YtakcpoapokacgabDoorMN
import Derived.RowKit
namespace Go.Proofs.YtakcpoapokacgabDoor
open Go.RowKit

def val : List Int → Nat
  | [] => 0
  | x :: xs => x.toNat + 4294967296 * val xs
def Wd (xs : List Int) : Prop := ∀ j, 0 ≤ xs.getD j 0 ∧ xs.getD j 0 < 4294967296
/-- without the noughts at its end -/
def nz (xs : List Int) : List Int := xs.take (tl xs)
theorem Wd.cons {x : Int} {xs : List Int} (h : Wd (x :: xs)) : (0 ≤ x ∧ x < 4294967296) ∧ Wd xs := by
  refine ⟨by simpa using h 0, fun j => ?_⟩
  have := h (j + 1)
  simpa using this
theorem Wd.mk {x : Int} {xs : List Int} (h0 : 0 ≤ x ∧ x < 4294967296) (h : Wd xs) : Wd (x :: xs) := by
  intro j
  cases j with
  | zero => simpa using h0
  | succ j => simpa using h j
theorem Wd.nil : Wd [] := fun j => by simp
theorem Wd.take {xs : List Int} (h : Wd xs) (k : Nat) : Wd (xs.take k) := by
  intro j
  by_cases c : j < k
  · have := h j; simpa [List.getD, List.getElem?_take, c] using this
  · simp [List.getD, List.getElem?_take, c]
theorem Wd.set {xs : List Int} (h : Wd xs) (k : Nat) (x : Int) (hx : 0 ≤ x ∧ x < 4294967296) : Wd (xs.set k x) := by
  intro j
  by_cases c : k = j
  · subst c
    by_cases d : k < xs.length
    · simpa [List.getD, List.getElem?_set, d] using hx
    · simp [List.getD, d]
  · have := h j; simpa [List.getD, List.getElem?_set, c] using this
theorem Wd.append {xs ys : List Int} (h : Wd xs) (k : Wd ys) : Wd (xs ++ ys) := by
  intro j
  by_cases c : j < xs.length
  · have := h j; simpa [List.getD, List.getElem?_append, c] using this
  · have := k (j - xs.length); simpa [List.getD, List.getElem?_append, c] using this
theorem val_append : ∀ (xs ys : List Int), val (xs ++ ys) = val xs + 4294967296 ^ xs.length * val ys
  | [], ys => by simp [val]
  | x :: xs, ys => by
    simp only [List.cons_append, val, val_append xs ys, List.length_cons, Nat.pow_succ]
    rw [Nat.mul_add, ← Nat.mul_assoc, Nat.mul_comm 4294967296 (4294967296 ^ xs.length)]; omega
theorem val_take_succ (xs : List Int) (i : Nat) : val (xs.take (i + 1)) = val (xs.take i) + (xs.getD i 0).toNat * 4294967296 ^ i := by
  by_cases c : i < xs.length
  · rw [List.take_add_one, List.getElem?_eq_getElem c, val_append]
    simp only [Option.toList_some, val, Nat.mul_zero, Nat.add_zero, List.length_take]
    rw [Nat.min_eq_left (by omega), Nat.mul_comm]
    simp [List.getD, c]
  · rw [List.take_of_length_le (by omega), List.take_of_length_le (by omega)]
    simp [List.getD, List.getElem?_eq_none (by omega : xs.length ≤ i)]
theorem val_set : ∀ (xs : List Int) (i : Nat) (s : Int), i < xs.length → val (xs.set i s) + (xs.getD i 0).toNat * 4294967296 ^ i = val xs + s.toNat * 4294967296 ^ i
  | [], i, s, h => by simp at h
  | x :: xs, 0, s, _ => by simp [val]; omega
  | x :: xs, i + 1, s, h => by
    have ih := val_set xs i s (by simpa using h)
    simp only [List.set_cons_succ, val, List.getD_cons_succ, Nat.pow_succ]
    rw [← Nat.mul_assoc, ← Nat.mul_assoc, Nat.mul_comm _ 4294967296, Nat.mul_comm _ 4294967296]
    omega
theorem val_lt : ∀ (xs : List Int), Wd xs → val xs < 4294967296 ^ xs.length
  | [], _ => by simp [val]
  | x :: xs, h => by
    obtain ⟨h0, h1⟩ := h.cons
    have ih := val_lt xs h1
    simp only [val, List.length_cons, Nat.pow_succ]
    omega
theorem tl_spec (xs : List Int) (n : Nat) : (∀ j, tlAux xs n ≤ j → j < n → xs.getD j 0 = 0) ∧ (tlAux xs n = 0 ∨ xs.getD (tlAux xs n - 1) 0 ≠ 0) := by
  induction n with
  | zero => exact ⟨fun j _ h => by omega, Or.inl rfl⟩
  | succ n ih =>
    by_cases c : xs.getD n 0 = 0
    · rw [tlAux_zero xs n c]
      refine ⟨fun j h1 h2 => ?_, ih.2⟩
      by_cases d : j = n
      · subst d; exact c
      · exact ih.1 j h1 (by omega)
    · rw [tlAux_nz xs n c]
      exact ⟨fun j h1 h2 => by omega, Or.inr (by simpa using c)⟩
theorem val_take_zero (xs : List Int) (k : Nat) (h : ∀ j, k ≤ j → j < xs.length → xs.getD j 0 = 0) : ∀ n, k ≤ n → n ≤ xs.length → val (xs.take n) = val (xs.take k) := by
  intro n
  induction n with
  | zero => intro h1 _; rw [show k = 0 from by omega]
  | succ n ih =>
    intro h1 h2
    by_cases c : k = n + 1
    · rw [c]
    · rw [val_take_succ, ih (by omega) (by omega), h n (by omega) (by omega)]; simp
theorem val_nz (xs : List Int) : val (nz xs) = val xs := by
  have h := tl_spec xs xs.length
  have := val_take_zero xs (tl xs) h.1 xs.length (tl_le xs) (Nat.le_refl _)
  rw [List.take_length] at this
  exact this.symm
theorem nz_length (xs : List Int) : (nz xs).length = tl xs := by
  unfold nz; rw [List.length_take, Nat.min_eq_left (tl_le xs)]
theorem nz_last (xs : List Int) : nz xs = [] ∨ (nz xs).getD ((nz xs).length - 1) 0 ≠ 0 := by
  rw [nz_length]
  rcases (tl_spec xs xs.length).2 with h | h
  · left; unfold nz tl; rw [h]; rfl
  · by_cases c : tl xs = 0
    · left; unfold nz; rw [c]; rfl
    · right
      have h' : xs.getD (tl xs - 1) 0 ≠ 0 := h
      unfold nz
      simpa [List.getD, List.getElem?_take, show tl xs - 1 < tl xs from by omega] using h'
/-- a number has one normal list -/
theorem val_uniq : ∀ (xs ys : List Int), Wd xs → Wd ys → (xs = [] ∨ xs.getD (xs.length - 1) 0 ≠ 0) → (ys = [] ∨ ys.getD (ys.length - 1) 0 ≠ 0) → val xs = val ys → xs = ys
  | [], [], _, _, _, _, _ => rfl
  | [], y :: ys, _, hy, _, hl, h => by
    exfalso
    have key : ∀ (zs : List Int), Wd zs → zs ≠ [] → zs.getD (zs.length - 1) 0 ≠ 0 → val zs ≠ 0 := by
      intro zs
      induction zs with
      | nil => intro _ h _; exact absurd rfl h
      | cons z zs ih =>
        intro hz _ hl
        obtain ⟨h0, h1⟩ := hz.cons
        by_cases c : zs = []
        · subst c
          simp at hl
          simp [val]; omega
        · have hlen : 0 < zs.length := List.length_pos_iff.2 c
          have := ih h1 c (by
            rw [List.length_cons, show zs.length + 1 - 1 = (zs.length - 1) + 1 from by omega, List.getD_cons_succ] at hl
            exact hl)
          simp only [val]; omega
    exact key (y :: ys) hy (by simp) (hl.resolve_left (by simp)) (by rw [← h]; rfl)
  | x :: xs, [], hx, _, hl, _, h => by
    exfalso
    have key : ∀ (zs : List Int), Wd zs → zs ≠ [] → zs.getD (zs.length - 1) 0 ≠ 0 → val zs ≠ 0 := by
      intro zs
      induction zs with
      | nil => intro _ h _; exact absurd rfl h
      | cons z zs ih =>
        intro hz _ hl
        obtain ⟨h0, h1⟩ := hz.cons
        by_cases c : zs = []
        · subst c
          simp at hl
          simp [val]; omega
        · have hlen : 0 < zs.length := List.length_pos_iff.2 c
          have := ih h1 c (by
            rw [List.length_cons, show zs.length + 1 - 1 = (zs.length - 1) + 1 from by omega, List.getD_cons_succ] at hl
            exact hl)
          simp only [val]; omega
    exact key (x :: xs) hx (by simp) (hl.resolve_left (by simp)) (by rw [h]; rfl)
  | x :: xs, y :: ys, hx, hy, lx, ly, h => by
    obtain ⟨h0, h1⟩ := hx.cons
    obtain ⟨k0, k1⟩ := hy.cons
    simp only [val] at h
    have hv : val xs = val ys ∧ x.toNat = y.toNat := by omega
    have tail : ∀ (z : Int) (zs : List Int), (z :: zs = [] ∨ (z :: zs).getD ((z :: zs).length - 1) 0 ≠ 0) → (zs = [] ∨ zs.getD (zs.length - 1) 0 ≠ 0) := fun z zs hh => by
      by_cases c : zs = []
      · exact Or.inl c
      · right
        have hlen : 0 < zs.length := List.length_pos_iff.2 c
        have := hh.resolve_left (by simp)
        rw [List.length_cons, show zs.length + 1 - 1 = (zs.length - 1) + 1 from by omega, List.getD_cons_succ] at this
        exact this
    have := val_uniq xs ys h1 k1 (tail x xs lx) (tail y ys ly) hv.1
    rw [this, show x = y from by omega]
theorem nz_uniq (xs ys : List Int) (hx : Wd xs) (hy : Wd ys) (h : val xs = val ys) : nz xs = nz ys :=
  val_uniq _ _ (hx.take _) (hy.take _) (nz_last xs) (nz_last ys) (by rw [val_nz, val_nz, h])
end Go.Proofs.YtakcpoapokacgabDoor
