import Derived.Test.YtbcjhmdkpkmieaaKXA0
import Derived.Deep.CutRange
import Derived.Deep.DeepCutAuto
import Derived.Deep.OwnRows
import Derived.Deep.RegionHeld3
import Derived.Lib.BitFns
import Derived.OwnWalk
namespace Go.Proofs.Ytbcjhmdkpkmieaa
open Go.RowKit
open Go
namespace B8
def bt (n j : Nat) : Nat := n / 256 ^ j % 256
def by8 (n : Nat) : List Int := (List.range 8).map (fun j => ((bt n j : Nat) : Int))
def bv : List Int → Nat
  | [] => 0
  | x :: xs => x.toNat + 256 * bv xs
def Wb (xs : List Int) : Prop := ∀ j, 0 ≤ xs.getD j 0 ∧ xs.getD j 0 < 256
theorem by8_len (n : Nat) : (by8 n).length = 8 := by simp [by8]
theorem by8_getD (n j : Nat) (h : j < 8) : (by8 n).getD j 0 = ((bt n j : Nat) : Int) := by
  unfold by8
  rw [List.getD, List.getElem?_map, List.getElem?_range h]; rfl
theorem Wb.cons {x : Int} {xs : List Int} (h : Wb (x :: xs)) : (0 ≤ x ∧ x < 256) ∧ Wb xs := by
  refine ⟨by simpa using h 0, fun j => ?_⟩
  have := h (j + 1)
  simpa using this
theorem Wb.mk {x : Int} {xs : List Int} (h0 : 0 ≤ x ∧ x < 256) (h : Wb xs) : Wb (x :: xs) := by
  intro j
  cases j with
  | zero => simpa using h0
  | succ j => simpa using h j
theorem Wb.nil : Wb [] := fun j => by simp
theorem Wb.take {xs : List Int} (h : Wb xs) (k : Nat) : Wb (xs.take k) := by
  intro j
  by_cases c : j < k
  · have := h j; simpa [List.getD, List.getElem?_take, c] using this
  · simp [List.getD, List.getElem?_take, c]
theorem Wb.drop {xs : List Int} (h : Wb xs) (k : Nat) : Wb (xs.drop k) := by
  intro j
  have := h (k + j); simpa [List.getD, List.getElem?_drop] using this
theorem by8_bv (xs : List Int) (hl : xs.length = 8) (h : Wb xs) : by8 (bv xs) = xs := by
  match xs, hl with
  | [a, b, c, d, e, f, g, i], _ =>
    obtain ⟨ha, h⟩ := h.cons
    obtain ⟨hb, h⟩ := h.cons
    obtain ⟨hc, h⟩ := h.cons
    obtain ⟨hd, h⟩ := h.cons
    obtain ⟨he, h⟩ := h.cons
    obtain ⟨hf, h⟩ := h.cons
    obtain ⟨hg, h⟩ := h.cons
    obtain ⟨hi, h⟩ := h.cons
    show [_, _, _, _, _, _, _, _] = _
    simp only [bt, bv]
    have e1 : ∀ A B : Nat, A < 256 → (A + 256 * B) / 256 = B := fun A B h => by omega
    have e2 : ∀ A B : Nat, A < 256 → (A + 256 * B) % 256 = A := fun A B h => by omega
    simp only [show (256 : Nat) ^ 0 = 1 from rfl, show (256 : Nat) ^ 1 = 256 from rfl, show (256 : Nat) ^ 2 = 256 * 256 from rfl, show (256 : Nat) ^ 3 = 256 * 256 * 256 from rfl, show (256 : Nat) ^ 4 = 256 * 256 * 256 * 256 from rfl, show (256 : Nat) ^ 5 = 256 * 256 * 256 * 256 * 256 from rfl, show (256 : Nat) ^ 6 = 256 * 256 * 256 * 256 * 256 * 256 from rfl, show (256 : Nat) ^ 7 = 256 * 256 * 256 * 256 * 256 * 256 * 256 from rfl, ← Nat.div_div_eq_div_mul, Nat.div_one]
    rw [e2 _ _ (by omega), e1 _ _ (by omega), e2 _ _ (by omega), e1 _ _ (by omega), e2 _ _ (by omega), e1 _ _ (by omega), e2 _ _ (by omega), e1 _ _ (by omega), e2 _ _ (by omega), e1 _ _ (by omega), e2 _ _ (by omega), e1 _ _ (by omega), e2 _ _ (by omega), e1 _ _ (by omega), e2 _ _ (by omega)]
    simp; omega
theorem bv_lt : ∀ (xs : List Int), Wb xs → bv xs < 256 ^ xs.length
  | [], _ => by simp [bv]
  | x :: xs, h => by
    obtain ⟨h0, h1⟩ := h.cons
    have ih := bv_lt xs h1
    simp only [bv, List.length_cons, Nat.pow_succ]
    omega
theorem bv_lt8 (xs : List Int) (hl : xs.length = 8) (h : Wb xs) : bv xs < 18446744073709551616 := by
  have := bv_lt xs h
  rw [hl] at this
  exact this
theorem bv_append : ∀ (xs ys : List Int), bv (xs ++ ys) = bv xs + 256 ^ xs.length * bv ys
  | [], ys => by simp [bv]
  | x :: xs, ys => by
    simp only [List.cons_append, bv, bv_append xs ys, List.length_cons, Nat.pow_succ]
    rw [Nat.mul_add, ← Nat.mul_assoc, Nat.mul_comm 256 (256 ^ xs.length)]; omega
theorem bv_take_succ (xs : List Int) (i : Nat) : bv (xs.take (i + 1)) = bv (xs.take i) + (xs.getD i 0).toNat * 256 ^ i := by
  by_cases c : i < xs.length
  · rw [List.take_add_one, List.getElem?_eq_getElem c, bv_append]
    simp only [Option.toList_some, bv, Nat.mul_zero, Nat.add_zero, List.length_take]
    rw [Nat.min_eq_left (by omega), Nat.mul_comm]
    simp [List.getD, c]
  · rw [List.take_of_length_le (by omega), List.take_of_length_le (by omega)]
    simp [List.getD, List.getElem?_eq_none (by omega : xs.length ≤ i)]
theorem bv_drop_succ (xs : List Int) (i : Nat) (h : i < xs.length) : bv (xs.drop i) = (xs.getD i 0).toNat + 256 * bv (xs.drop (i + 1)) := by
  rw [List.drop_eq_getElem_cons h, bv]
  simp [List.getD, h]
theorem or_step (A B k : Nat) (h : A < 256 ^ k) : A ||| (B * 256 ^ k) = A + B * 256 ^ k := by
  have e : (256 : Nat) ^ k = 2 ^ (8 * k) := by rw [Nat.pow_mul]
  rw [e] at h ⊢
  rw [Nat.or_comm, Nat.mul_comm B, ← Nat.two_pow_add_eq_or_of_lt h B]
  omega

theorem by8_push (X j : Nat) (h : j < 8) : (by8 X).take j ++ [((bt X j : Nat) : Int)] = (by8 X).take (j + 1) := by
  have hj : j < (by8 X).length := by rw [by8_len]; exact h
  have e := by8_getD X j h
  rw [List.take_add_one, List.getElem?_eq_getElem hj]
  simp [List.getD, hj] at e
  simp [e]
theorem pow_step (X j : Nat) : X / 256 ^ j / 256 = X / 256 ^ (j + 1) := by rw [Nat.div_div_eq_div_mul, Nat.pow_succ]

def Arr (w : World) (p : Option Addr) (xs : List Int) : Prop := xs = [] ∨ ∃ b off, p = some ⟨b, off, none⟩ ∧ ∀ j, j < xs.length → w.cell? ⟨b, off + j, none⟩ = some (.int .u8 (xs.getD j 0))
theorem Arr.grown {w w' : World} {p : Option Addr} {xs : List Int} (h : Arr w p xs) (g : Kp w w') : Arr w' p xs := by
  rcases h with h | ⟨b, off, h1, h2⟩
  · exact Or.inl h
  · exact Or.inr ⟨b, off, h1, fun j hj => kkeep g (h2 j hj)⟩
theorem Arr.at {w : World} {p : Option Addr} {xs : List Int} (h : Arr w p xs) {k : Nat} (hk : k < xs.length) : ∃ b off, p = some ⟨b, off, none⟩ ∧ ∀ j, j < xs.length → w.cell? ⟨b, off + j, none⟩ = some (.int .u8 (xs.getD j 0)) := by
  rcases h with h | h
  · subst h; simp at hk
  · exact h
theorem take_eq_step {xs ys : List Int} {k : Nat} (hl : xs.length = ys.length) (hk : k < xs.length) (h : xs.take k = ys.take k) (e : xs.getD k 0 = ys.getD k 0) : xs.take (k + 1) = ys.take (k + 1) := by
  have hk2 : k < ys.length := by omega
  have e1 : xs.getD k 0 = xs[k] := by simp [List.getD, hk]
  have e2 : ys.getD k 0 = ys[k] := by simp [List.getD, hk2]
  rw [e1, e2] at e
  rw [List.take_add_one, List.take_add_one, h, List.getElem?_eq_getElem hk, List.getElem?_eq_getElem hk2, e]
def Rw (w : World) (g n : Nat) (xs : List Int) : Prop := w.rowIs g 5 n (fun j => .int .u8 (xs.getD j 0))
theorem rowIs_grown {w w' : World} {g : Nat} {t : TypeId} {n : Nat} {f : Nat → Value} (h : w.rowIs g t n f) (gr : Kp w w') : w'.rowIs g t n f := by
  exact h.of_block (Below.block gr g h.lt)
theorem Rw.grown {w w' : World} {g n : Nat} {xs : List Int} (h : Rw w g n xs) (gr : Kp w w') : Rw w' g n xs := rowIs_grown h gr
theorem Rw.arr {w : World} {g n : Nat} {xs : List Int} (h : Rw w g n xs) (k : Nat) (hk : k ≤ n) (hx : k ≤ xs.length) : Arr w (some ⟨g, 0, none⟩) (xs.take k) := by
  refine Or.inr ⟨g, 0, rfl, fun j hj => ?_⟩
  have hj2 : j < k := by simp at hj; omega
  rw [Nat.zero_add, World.rowIs.cell h (by omega)]
  simp [List.getD, hj2]
theorem inf8 : (Try.prog.info? 5).map (fun i => (i.zero, i.size, i.bytes)) = some (some (.int .u8 0), 1, 1) := by kernel_rfl
def Own (w : World) (base : Nat) (v : Value) (xs : List Int) : Prop := w.ownsRow base 5 1 v xs.length (xs.map (Value.int .u8))
theorem Own.nil (w : World) (base : Nat) : Own w base (.slice none 0 0) [] := World.ownsRow_nil _ _ _ _
theorem Own.arr {w : World} {base : Nat} {v : Value} {xs : List Int} (h : Own w base v xs) : ∃ p c, v = .slice p xs.length c ∧ Arr w p xs ∧ xs.length ≤ c := by
  have hc : ∀ g, v.ownBlock = some g → ∀ j u, (xs.map (Value.int .u8))[j]? = some u → w.cell? ((⟨g, 0, none⟩ : Addr).add j) = some u := fun g hg => World.ownsRow.cells h hg
  rcases h.2 with ⟨h1, h2⟩ | ⟨g, cap, cur, h1, h2, h3, h4, h5, h6, h7⟩
  · have : xs = [] := List.length_eq_zero_iff.1 h2
    subst this
    exact ⟨none, 0, h1, Or.inl rfl, Nat.le_refl _⟩
  · refine ⟨_, cap, h1, Or.inr ⟨g, 0, rfl, fun j hj => ?_⟩, h4⟩
    have := hc g (by rw [h1]; rfl) j (.int .u8 (xs.getD j 0)) (by simp [List.getD, hj])
    have e : (⟨g, 0, none⟩ : Addr).add j = ⟨g, j, none⟩ := by
      unfold Addr.add
      by_cases c : j = 0
      · subst c; simp
      · simp [c]
    rw [Nat.zero_add, ← e]
    exact this
theorem Own.mono {w : World} {base base' : Nat} {v : Value} {xs : List Int} (h : Own w base v xs) (hb : base' ≤ base) : Own w base' v xs := by
  refine ⟨h.1, ?_⟩
  rcases h.2 with h' | ⟨g, cap, cur, h1, h2, h3⟩
  · exact Or.inl h'
  · exact Or.inr ⟨g, cap, cur, h1, Nat.le_trans hb h2, h3⟩
theorem inf8p : ∃ i, Try.prog.info? 5 = some i ∧ i.zero = some (.int .u8 0) ∧ i.size = 1 ∧ i.bytes = 1 := info_parts inf8
theorem Own.push {w : World} {base : Nat} {v : Value} {xs : List Int} {X : Int} (h : w.ownsRow base 5 1 v (xs.length + 1) (xs.map (Value.int .u8) ++ [.int .u8 X])) : Own w base v (xs ++ [X]) := by
  unfold Own
  simpa using h
theorem own_block {w : World} {base : Nat} {v : Value} {xs : List Int} (h : Own w base v xs) : ∀ k, v.ownBlock = some k → base ≤ k := fun k hk => (h.lt k hk).1
theorem take_push (xs : List Int) (k : Nat) (h : k < xs.length) : xs.take k ++ [xs.getD k 0] = xs.take (k + 1) := by
  rw [List.take_add_one, List.getElem?_eq_getElem h]
  simp [List.getD, h]
theorem addr_add (b off j : Nat) : (⟨b, off, none⟩ : Addr).add j = ⟨b, off + j, none⟩ := by
  unfold Addr.add
  by_cases c : j = 0
  · subst c; simp
  · simp [c]
end B8
end Go.Proofs.Ytbcjhmdkpkmieaa
