import Derived.Test.YtcckdceijgdgoaaKXA0
import Derived.Deep.CutRange
import Derived.Deep.DeepCutAuto
import Derived.Deep.OwnRows
import Derived.Deep.RegionHeld3
import Derived.Lib.BitFns
import Derived.OwnWalk
namespace Go.Proofs.Ytcckdceijgdgoaa
open Go.RowKit
open Go
namespace B8
def bt (n j : Nat) : Nat := n / 256 ^ j % 256
def by8 (n : Nat) : List Int := (List.range 8).map (fun j => ((bt n j : Nat) : Int))
def bv : List Int → Nat
  | [] => 0
  | x :: xs => x.toNat + 256 * bv xs
def Wb (xs : List Int) : Prop := ∀ j, 0 ≤ xs.getD j 0 ∧ xs.getD j 0 < 256
theorem by8_len (n : Nat) : (by8 n).length = 8 := by simp [by8]
theorem by8_getD (n j : Nat) (h : j < 8) : (by8 n).getD j 0 = ((bt n j : Nat) : Int) := by
  unfold by8
  rw [List.getD, List.getElem?_map, List.getElem?_range h]; rfl
theorem Wb.cons {x : Int} {xs : List Int} (h : Wb (x :: xs)) : (0 ≤ x ∧ x < 256) ∧ Wb xs := by
  refine ⟨by simpa using h 0, fun j => ?_⟩
  have := h (j + 1)
  simpa using this
theorem Wb.mk {x : Int} {xs : List Int} (h0 : 0 ≤ x ∧ x < 256) (h : Wb xs) : Wb (x :: xs) := by
  intro j
  cases j with
  | zero => simpa using h0
  | succ j => simpa using h j
theorem Wb.nil : Wb [] := fun j => by simp
theorem Wb.take {xs : List Int} (h : Wb xs) (k : Nat) : Wb (xs.take k) := by
  intro j
  by_cases c : j < k
  · have := h j; simpa [List.getD, List.getElem?_take, c] using this
  · simp [List.getD, List.getElem?_take, c]
theorem Wb.drop {xs : List Int} (h : Wb xs) (k : Nat) : Wb (xs.drop k) := by
  intro j
  have := h (k + j); simpa [List.getD, List.getElem?_drop] using this
theorem Wb.append {xs ys : List Int} (h : Wb xs) (k : Wb ys) : Wb (xs ++ ys) := by
  intro j
  by_cases c : j < xs.length
  · have := h j; simpa [List.getD, List.getElem?_append, c] using this
  · have := k (j - xs.length); simpa [List.getD, List.getElem?_append, c] using this
theorem bv_lt : ∀ (xs : List Int), Wb xs → bv xs < 256 ^ xs.length
  | [], _ => by simp [bv]
  | x :: xs, h => by
    obtain ⟨h0, h1⟩ := h.cons
    have ih := bv_lt xs h1
    simp only [bv, List.length_cons, Nat.pow_succ]
    omega
theorem bv_lt8 (xs : List Int) (hl : xs.length = 8) (h : Wb xs) : bv xs < 18446744073709551616 := by
  have := bv_lt xs h
  rw [hl] at this
  exact this
theorem bv_append : ∀ (xs ys : List Int), bv (xs ++ ys) = bv xs + 256 ^ xs.length * bv ys
  | [], ys => by simp [bv]
  | x :: xs, ys => by
    simp only [List.cons_append, bv, bv_append xs ys, List.length_cons, Nat.pow_succ]
    rw [Nat.mul_add, ← Nat.mul_assoc, Nat.mul_comm 256 (256 ^ xs.length)]; omega
theorem bv_take_succ (xs : List Int) (i : Nat) : bv (xs.take (i + 1)) = bv (xs.take i) + (xs.getD i 0).toNat * 256 ^ i := by
  by_cases c : i < xs.length
  · rw [List.take_add_one, List.getElem?_eq_getElem c, bv_append]
    simp only [Option.toList_some, bv, Nat.mul_zero, Nat.add_zero, List.length_take]
    rw [Nat.min_eq_left (by omega), Nat.mul_comm]
    simp [List.getD, c]
  · rw [List.take_of_length_le (by omega), List.take_of_length_le (by omega)]
    simp [List.getD, List.getElem?_eq_none (by omega : xs.length ≤ i)]
theorem or_step (A B k : Nat) (h : A < 256 ^ k) : A ||| (B * 256 ^ k) = A + B * 256 ^ k := by
  have e : (256 : Nat) ^ k = 2 ^ (8 * k) := by rw [Nat.pow_mul]
  rw [e] at h ⊢
  rw [Nat.or_comm, Nat.mul_comm B, ← Nat.two_pow_add_eq_or_of_lt h B]
  omega

theorem shr_bt (X k : Nat) : (X : Int) / 2 ^ (8 * k) % 256 = ((bt X k : Nat) : Int) := by
  unfold bt
  rw [show (256 : Nat) ^ k = 2 ^ (8 * k) from by rw [Nat.pow_mul]]
  rw [Int.natCast_emod, Int.natCast_ediv, Int.natCast_pow]
  rfl
theorem by8_push (X j : Nat) (h : j < 8) : (by8 X).take j ++ [((bt X j : Nat) : Int)] = (by8 X).take (j + 1) := by
  have hj : j < (by8 X).length := by rw [by8_len]; exact h
  have e := by8_getD X j h
  rw [List.take_add_one, List.getElem?_eq_getElem hj]
  simp [List.getD, hj] at e
  simp [e]
theorem pow_step (X j : Nat) : X / 256 ^ j / 256 = X / 256 ^ (j + 1) := by rw [Nat.div_div_eq_div_mul, Nat.pow_succ]

theorem setCells_row {g : Nat} {t : TypeId} {n : Nat} : ∀ (vs : List Value) (o : Nat) (w : World) (f : Nat → Value), w.rowIs g t n f → (w.setCells g o vs).rowIs g t n (fun j => if o ≤ j ∧ j < o + vs.length then vs.getD (j - o) (f j) else f j)
  | [], o, w, f, h => h.congr (fun j _ => by rw [if_neg (by simp)])
  | v :: vs, o, w, f, h => by
    have ih := setCells_row vs (o + 1) _ _ (h.set o v)
    refine World.rowIs.congr ih (fun j _ => ?_)
    by_cases c1 : j = o
    · subst c1
      rw [if_neg (by omega), if_pos rfl, if_pos ⟨Nat.le_refl _, by simp⟩]; simp
    · by_cases c2 : o + 1 ≤ j ∧ j < o + 1 + vs.length
      · have c3 : o ≤ j ∧ j < o + (v :: vs).length := ⟨by omega, by simp; omega⟩
        rw [if_pos c2, if_pos c3, if_neg c1, show j - o = (j - (o + 1)) + 1 from by omega]; simp
      · rw [if_neg c2, if_neg c1, if_neg (by simp; omega)]
theorem setCells_kp {W : World} {g : Nat} (hg : W.heap.size ≤ g) : ∀ (vs : List Value) (o : Nat) (w : World), Kp W w → Kp W (w.setCells g o vs)
  | [], _, _, h => h
  | v :: vs, o, _, h => setCells_kp hg vs (o + 1) _ (h.setCell hg v)
def Arr (w : World) (p : Option Addr) (xs : List Int) : Prop := xs = [] ∨ ∃ b off, p = some ⟨b, off, none⟩ ∧ ∀ j, j < xs.length → w.cell? ⟨b, off + j, none⟩ = some (.int .u8 (xs.getD j 0))
theorem Arr.grown {w w' : World} {p : Option Addr} {xs : List Int} (h : Arr w p xs) (g : Kp w w') : Arr w' p xs := by
  rcases h with h | ⟨b, off, h1, h2⟩
  · exact Or.inl h
  · exact Or.inr ⟨b, off, h1, fun j hj => kkeep g (h2 j hj)⟩
theorem Arr.at {w : World} {p : Option Addr} {xs : List Int} (h : Arr w p xs) {k : Nat} (hk : k < xs.length) : ∃ b off, p = some ⟨b, off, none⟩ ∧ ∀ j, j < xs.length → w.cell? ⟨b, off + j, none⟩ = some (.int .u8 (xs.getD j 0)) := by
  rcases h with h | h
  · subst h; simp at hk
  · exact h
theorem take_eq_step {xs ys : List Int} {k : Nat} (hl : xs.length = ys.length) (hk : k < xs.length) (h : xs.take k = ys.take k) (e : xs.getD k 0 = ys.getD k 0) : xs.take (k + 1) = ys.take (k + 1) := by
  have hk2 : k < ys.length := by omega
  have e1 : xs.getD k 0 = xs[k] := by simp [List.getD, hk]
  have e2 : ys.getD k 0 = ys[k] := by simp [List.getD, hk2]
  rw [e1, e2] at e
  rw [List.take_add_one, List.take_add_one, h, List.getElem?_eq_getElem hk, List.getElem?_eq_getElem hk2, e]
def Rw (w : World) (g n : Nat) (xs : List Int) : Prop := w.rowIs g 5 n (fun j => .int .u8 (xs.getD j 0))
theorem rowIs_grown {w w' : World} {g : Nat} {t : TypeId} {n : Nat} {f : Nat → Value} (h : w.rowIs g t n f) (gr : Kp w w') : w'.rowIs g t n f := by
  exact h.of_block (Below.block gr g h.lt)
theorem Rw.grown {w w' : World} {g n : Nat} {xs : List Int} (h : Rw w g n xs) (gr : Kp w w') : Rw w' g n xs := rowIs_grown h gr
theorem Rw.arr {w : World} {g n : Nat} {xs : List Int} (h : Rw w g n xs) (k : Nat) (hk : k ≤ n) (hx : k ≤ xs.length) : Arr w (some ⟨g, 0, none⟩) (xs.take k) := by
  refine Or.inr ⟨g, 0, rfl, fun j hj => ?_⟩
  have hj2 : j < k := by simp at hj; omega
  rw [Nat.zero_add, World.rowIs.cell h (by omega)]
  simp [List.getD, hj2]
theorem inf8 : (Try.prog.info? 5).map (fun i => (i.zero, i.size, i.bytes)) = some (some (.int .u8 0), 1, 1) := by kernel_rfl
theorem mk8 (n : Nat) (h : n ≤ 1099511627776) (w : World) : (Instr.makeSlice 35 (.int .i64 (n : Int)) (.int .i64 (n : Int))).run Try.prog w = .ok (.slice (some ⟨w.heap.size, 0, none⟩) n n) (w.alloc (.cells (madeCells #[.int .u8 0] n) 5)) :=
  run_make_row' 35 5 (.int .u8 0) 1 Try.underlying35 inf8 rfl .i64 .i64 n (by omega) (by omega) w
theorem set_step {w : World} {t : TypeId} {g n k : Nat} {xs : List Int} (h : w.rowIs g t n (fun j => .int .u8 (if j < k then xs.getD j 0 else 0))) : (w.setCell ⟨g, k, none⟩ (.int .u8 (xs.getD k 0))).rowIs g t n (fun j => .int .u8 (if j < k + 1 then xs.getD j 0 else 0)) := by
  refine (h.set k (.int .u8 (xs.getD k 0))).congr (fun j _ => ?_)
  by_cases c : j = k
  · subst c; rw [if_pos rfl, if_pos (by omega)]
  · rw [if_neg c]
    by_cases d : j < k
    · rw [if_pos d, if_pos (by omega)]
    · rw [if_neg d, if_neg (by omega)]

def Own (w : World) (base : Nat) (v : Value) (xs : List Int) : Prop := w.ownsRow base 5 1 v xs.length (xs.map (Value.int .u8))
theorem Own.nil (w : World) (base : Nat) : Own w base (.slice none 0 0) [] := World.ownsRow_nil _ _ _ _
theorem Own.arr {w : World} {base : Nat} {v : Value} {xs : List Int} (h : Own w base v xs) : ∃ p c, v = .slice p xs.length c ∧ Arr w p xs ∧ xs.length ≤ c := by
  have hc : ∀ g, v.ownBlock = some g → ∀ j u, (xs.map (Value.int .u8))[j]? = some u → w.cell? ((⟨g, 0, none⟩ : Addr).add j) = some u := fun g hg => World.ownsRow.cells h hg
  rcases h.2 with ⟨h1, h2⟩ | ⟨g, cap, cur, h1, h2, h3, h4, h5, h6, h7⟩
  · have : xs = [] := List.length_eq_zero_iff.1 h2
    subst this
    exact ⟨none, 0, h1, Or.inl rfl, Nat.le_refl _⟩
  · refine ⟨_, cap, h1, Or.inr ⟨g, 0, rfl, fun j hj => ?_⟩, h4⟩
    have := hc g (by rw [h1]; rfl) j (.int .u8 (xs.getD j 0)) (by simp [List.getD, hj])
    have e : (⟨g, 0, none⟩ : Addr).add j = ⟨g, j, none⟩ := by
      unfold Addr.add
      by_cases c : j = 0
      · subst c; simp
      · simp [c]
    rw [Nat.zero_add, ← e]
    exact this
theorem Own.kp {w w' : World} {base : Nat} {v : Value} {xs : List Int} (h : Own w base v xs) (k : Kp w w') : Own w' base v xs := by
  refine ⟨h.1, ?_⟩
  rcases h.2 with h' | ⟨g, cap, cur, h1, h2, h3, h4, h5, h6, h7⟩
  · exact Or.inl h'
  · have hlt : g < w.heap.size := by
      by_cases c : g < w.heap.size
      · exact c
      · rw [Array.getElem?_eq_none (by simpa using c)] at h3; cases h3
    exact Or.inr ⟨g, cap, cur, h1, h2, by rw [Below.block k g hlt]; exact h3, h4, h5, h6, h7⟩
theorem Own.mono {w : World} {base base' : Nat} {v : Value} {xs : List Int} (h : Own w base v xs) (hb : base' ≤ base) : Own w base' v xs := by
  refine ⟨h.1, ?_⟩
  rcases h.2 with h' | ⟨g, cap, cur, h1, h2, h3⟩
  · exact Or.inl h'
  · exact Or.inr ⟨g, cap, cur, h1, Nat.le_trans hb h2, h3⟩
theorem inf8p : ∃ i, Try.prog.info? 5 = some i ∧ i.zero = some (.int .u8 0) ∧ i.size = 1 ∧ i.bytes = 1 := info_parts inf8
theorem Own.push {w : World} {base : Nat} {v : Value} {xs : List Int} {X : Int} (h : w.ownsRow base 5 1 v (xs.length + 1) (xs.map (Value.int .u8) ++ [.int .u8 X])) : Own w base v (xs ++ [X]) := by
  unfold Own
  simpa using h
theorem own_block {w : World} {base : Nat} {v : Value} {xs : List Int} (h : Own w base v xs) : ∀ k, v.ownBlock = some k → base ≤ k := fun k hk => (h.lt k hk).1
theorem take_push (xs : List Int) (k : Nat) (h : k < xs.length) : xs.take k ++ [xs.getD k 0] = xs.take (k + 1) := by
  rw [List.take_add_one, List.getElem?_eq_getElem h]
  simp [List.getD, h]
theorem siz8 : (Try.prog.info? 5).map (·.size) = some 1 := by kernel_rfl
theorem Rw.set {w : World} {g n : Nat} {xs : List Int} (h : Rw w g n xs) (k : Nat) (x : Int) (hk : k < xs.length) : Rw (w.setCell ⟨g, k, none⟩ (.int .u8 x)) g n (xs.set k x) := by
  refine World.rowIs.congr (World.rowIs.set h k (.int .u8 x)) (fun j _ => ?_)
  by_cases c : j = k
  · subst c; rw [if_pos rfl]; simp [List.getD, hk]
  · have c' : ¬ k = j := fun h => c h.symm
    rw [if_neg c]; simp [List.getD, c']

theorem addr_add (b off j : Nat) : (⟨b, off, none⟩ : Addr).add j = ⟨b, off + j, none⟩ := by
  unfold Addr.add
  by_cases c : j = 0
  · subst c; simp
  · simp [c]
theorem copy8 (w : World) (g n o m c c' : Nat) (p : Option Addr) (xs : List Int) (f : Nat → Value) (hr : w.rowIs g 5 n f) (hx : Arr w p xs) (hl : xs.length = m) (ho : o + m ≤ n) :
    ∃ w2, (∀ ty, (Builtin.copy_ #[35, 35] ty #[.slice (some ⟨g, o, none⟩) m c', .slice p m c]).run Try.prog w = .ok (goInt m) w2) ∧
      w2.rowIs g 5 n (fun j => if o ≤ j ∧ j < o + m then .int .u8 (xs.getD (j - o) 0) else f j) ∧ (∀ W : World, W.heap.size ≤ g → Kp W w → Kp W w2) := by
  subst hl
  rcases hx with rfl | ⟨b, off, rfl, hc⟩
  · refine ⟨w, fun ty => run_copy_none w 35 35 ty 5 _ _ _ _ _ _ Try.underlying35 siz8 (by simp), hr.congr (fun j _ => by rw [if_neg (by simp)]), fun W _ h => h⟩
  · refine ⟨w.setCells g o (xs.map (Value.int .u8)), fun ty => ?_, ?_, fun W hW h => setCells_kp hW _ _ _ h⟩
    · have := run_copy_cells (P := Try.prog) w 35 35 ty 5 g o xs.length c' ⟨b, off, none⟩ xs.length c (xs.map (Value.int .u8)) Try.underlying35 siz8 (by simp)
        (fun j v hv => by
          have hj : j < xs.length := by
            have := List.getElem?_eq_some_iff.1 hv
            simpa using this.1
          rw [addr_add, hc j hj]
          simpa [List.getD, hj] using hv)
        (fun j hj => by rw [hr.cell (by simp at hj; omega)]; rfl) (fun j _ => hr.frozen _)
        (fun v hv => by obtain ⟨x, _, rfl⟩ := List.mem_map.1 hv; rfl)
      simpa using this
    · refine World.rowIs.congr (setCells_row (xs.map (Value.int .u8)) o w f hr) (fun j _ => ?_)
      by_cases c : o ≤ j ∧ j < o + xs.length
      · rw [if_pos c, if_pos (by simpa using c)]; simp [List.getD, show j - o < xs.length from by omega]
      · rw [if_neg c, if_neg (by simpa using c)]
end B8
end Go.Proofs.Ytcckdceijgdgoaa
