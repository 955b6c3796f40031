import Derived.Test.YtipedmnipolmeaaKDInfixNormals0
import Derived.WalkKit
import Derived.ProofKit
import Derived.RowKit3
import Derived.Deep.RegionHeld3
import Derived.WalkSpells
import Derived.StillTactics
import Derived.Laws.FloatArith
import Derived.Deep.QuietTactic
import Derived.BigQuiet
import Derived.Below
import Derived.Laws.BitsAllLaws
import Derived.Laws.Slices
import Derived.Laws.Bits64b
import Derived.Deep.OwnRows
import Derived.OwnWalk
import Derived.Lib.BitFns
import Derived.Deep.CutRange
import Derived.Deep.DeepCutAuto
import Derived.OneCell
import Derived.Laws.OwnMore
import Derived.Maps.AppendAt
import Derived.Deep.AppendLies
import Derived.OrdersHeld
import Derived.Deep.RegionHeld
import Derived.Laws.BytesArg
import Derived.Lib.SlBytesConst
import Derived.ArgAppend
namespace Go.Proofs.Ytipedmnipolmeaa
open Go.RowKit
namespace Fq
theorem H2.past {w : World} {b : Nat} {u v : Value} (h : H2 w b u v) (c : Array Value) (t : TypeId) : H2 (w.alloc (.cells c t)) b u v := h.keep (Grown.alloc (Grown.refl _) c t)
end Fq
end Go.Proofs.Ytipedmnipolmeaa
namespace Go.Proofs.Ytipedmnipolmeaa
open Go.RowKit
open Go
namespace B8
/-- the j-th byte of a number -/
def bt (n j : Nat) : Nat := n / 256 ^ j % 256
/-- a number's eight bytes -/
def by8 (n : Nat) : List Int := (List.range 8).map (fun j => ((bt n j : Nat) : Int))
/-- the number of bytes -/
def bv : List Int → Nat
  | [] => 0
  | x :: xs => x.toNat + 256 * bv xs
def Wb (xs : List Int) : Prop := ∀ j, 0 ≤ xs.getD j 0 ∧ xs.getD j 0 < 256
theorem by8_len (n : Nat) : (by8 n).length = 8 := by simp [by8]
theorem by8_getD (n j : Nat) (h : j < 8) : (by8 n).getD j 0 = ((bt n j : Nat) : Int) := by
  unfold by8
  rw [List.getD, List.getElem?_map, List.getElem?_range h]; rfl
theorem bt_lt (n j : Nat) : bt n j < 256 := Nat.mod_lt _ (by decide)
theorem Wb.cons {x : Int} {xs : List Int} (h : Wb (x :: xs)) : (0 ≤ x ∧ x < 256) ∧ Wb xs := by
  refine ⟨by simpa using h 0, fun j => ?_⟩
  have := h (j + 1)
  simpa using this
theorem Wb.mk {x : Int} {xs : List Int} (h0 : 0 ≤ x ∧ x < 256) (h : Wb xs) : Wb (x :: xs) := by
  intro j
  cases j with
  | zero => simpa using h0
  | succ j => simpa using h j
theorem Wb.nil : Wb [] := fun j => by simp
theorem Wb.take {xs : List Int} (h : Wb xs) (k : Nat) : Wb (xs.take k) := by
  intro j
  by_cases c : j < k
  · have := h j; simpa [List.getD, List.getElem?_take, c] using this
  · simp [List.getD, List.getElem?_take, c]
theorem Wb.drop {xs : List Int} (h : Wb xs) (k : Nat) : Wb (xs.drop k) := by
  intro j
  have := h (k + j); simpa [List.getD, List.getElem?_drop] using this
theorem Wb.append {xs ys : List Int} (h : Wb xs) (k : Wb ys) : Wb (xs ++ ys) := by
  intro j
  by_cases c : j < xs.length
  · have := h j; simpa [List.getD, List.getElem?_append, c] using this
  · have := k (j - xs.length); simpa [List.getD, List.getElem?_append, c] using this
theorem by8_wb (n : Nat) : Wb (by8 n) := by
  intro j
  by_cases c : j < 8
  · rw [by8_getD n j c]; have := bt_lt n j; omega
  · have : (by8 n).getD j 0 = 0 := by
      rw [List.getD, List.getElem?_eq_none (by rw [by8_len]; omega)]; rfl
    omega
theorem bv_by8 (n : Nat) (h : n < 18446744073709551616) : bv (by8 n) = n := by
  show bv [_, _, _, _, _, _, _, _] = n
  simp only [bt, bv, Int.toNat_natCast, show (256 : Nat) ^ 0 = 1 from rfl, show (256 : Nat) ^ 1 = 256 from rfl, show (256 : Nat) ^ 2 = 256 * 256 from rfl, show (256 : Nat) ^ 3 = 256 * 256 * 256 from rfl, show (256 : Nat) ^ 4 = 256 * 256 * 256 * 256 from rfl, show (256 : Nat) ^ 5 = 256 * 256 * 256 * 256 * 256 from rfl, show (256 : Nat) ^ 6 = 256 * 256 * 256 * 256 * 256 * 256 from rfl, show (256 : Nat) ^ 7 = 256 * 256 * 256 * 256 * 256 * 256 * 256 from rfl, ← Nat.div_div_eq_div_mul, Nat.div_one]
  omega
theorem bv_lt : ∀ (xs : List Int), Wb xs → bv xs < 256 ^ xs.length
  | [], _ => by simp [bv]
  | x :: xs, h => by
    obtain ⟨h0, h1⟩ := h.cons
    have ih := bv_lt xs h1
    simp only [bv, List.length_cons, Nat.pow_succ]
    omega
theorem bv_lt8 (xs : List Int) (hl : xs.length = 8) (h : Wb xs) : bv xs < 18446744073709551616 := by
  have := bv_lt xs h
  rw [hl] at this
  exact this
theorem bv_append : ∀ (xs ys : List Int), bv (xs ++ ys) = bv xs + 256 ^ xs.length * bv ys
  | [], ys => by simp [bv]
  | x :: xs, ys => by
    simp only [List.cons_append, bv, bv_append xs ys, List.length_cons, Nat.pow_succ]
    rw [Nat.mul_add, ← Nat.mul_assoc, Nat.mul_comm 256 (256 ^ xs.length)]; omega
theorem bv_take_succ (xs : List Int) (i : Nat) : bv (xs.take (i + 1)) = bv (xs.take i) + (xs.getD i 0).toNat * 256 ^ i := by
  by_cases c : i < xs.length
  · rw [List.take_add_one, List.getElem?_eq_getElem c, bv_append]
    simp only [Option.toList_some, bv, Nat.mul_zero, Nat.add_zero, List.length_take]
    rw [Nat.min_eq_left (by omega), Nat.mul_comm]
    simp [List.getD, c]
  · rw [List.take_of_length_le (by omega), List.take_of_length_le (by omega)]
    simp [List.getD, List.getElem?_eq_none (by omega : xs.length ≤ i)]
/-- a byte more, by or -/
theorem or_step (A B k : Nat) (h : A < 256 ^ k) : A ||| (B * 256 ^ k) = A + B * 256 ^ k := by
  have e : (256 : Nat) ^ k = 2 ^ (8 * k) := by rw [Nat.pow_mul]
  rw [e] at h ⊢
  rw [Nat.or_comm, Nat.mul_comm B, ← Nat.two_pow_add_eq_or_of_lt h B]
  omega
theorem shr_bt (X k : Nat) : (X : Int) / 2 ^ (8 * k) % 256 = ((bt X k : Nat) : Int) := by
  unfold bt
  rw [show (256 : Nat) ^ k = 2 ^ (8 * k) from by rw [Nat.pow_mul]]
  rw [Int.natCast_emod, Int.natCast_ediv, Int.natCast_pow]
  rfl
theorem by8_push (X j : Nat) (h : j < 8) : (by8 X).take j ++ [((bt X j : Nat) : Int)] = (by8 X).take (j + 1) := by
  have hj : j < (by8 X).length := by rw [by8_len]; exact h
  have e := by8_getD X j h
  rw [List.take_add_one, List.getElem?_eq_getElem hj]
  simp [List.getD, hj] at e
  simp [e]
theorem setCells_row {g : Nat} {t : TypeId} {n : Nat} : ∀ (vs : List Value) (o : Nat) (w : World) (f : Nat → Value), w.rowIs g t n f → (w.setCells g o vs).rowIs g t n (fun j => if o ≤ j ∧ j < o + vs.length then vs.getD (j - o) (f j) else f j)
  | [], o, w, f, h => h.congr (fun j _ => by rw [if_neg (by simp)])
  | v :: vs, o, w, f, h => by
    have ih := setCells_row vs (o + 1) _ _ (h.set o v)
    refine World.rowIs.congr ih (fun j _ => ?_)
    by_cases c1 : j = o
    · subst c1
      rw [if_neg (by omega), if_pos rfl, if_pos ⟨Nat.le_refl _, by simp⟩]; simp
    · by_cases c2 : o + 1 ≤ j ∧ j < o + 1 + vs.length
      · have c3 : o ≤ j ∧ j < o + (v :: vs).length := ⟨by omega, by simp; omega⟩
        rw [if_pos c2, if_pos c3, if_neg c1, show j - o = (j - (o + 1)) + 1 from by omega]; simp
      · rw [if_neg c2, if_neg c1, if_neg (by simp; omega)]
theorem setCells_kp {W : World} {g : Nat} (hg : W.heap.size ≤ g) : ∀ (vs : List Value) (o : Nat) (w : World), Kp W w → Kp W (w.setCells g o vs)
  | [], _, _, h => h
  | v :: vs, o, _, h => setCells_kp hg vs (o + 1) _ (h.setCell hg v)
/-- the cells that a slice shows: xs, at p -/
def Arr (w : World) (p : Option Addr) (xs : List Int) : Prop := xs = [] ∨ ∃ b off, p = some ⟨b, off, none⟩ ∧ ∀ j, j < xs.length → w.cell? ⟨b, off + j, none⟩ = some (.int .u8 (xs.getD j 0))
theorem Arr.grown {w w' : World} {p : Option Addr} {xs : List Int} (h : Arr w p xs) (g : Kp w w') : Arr w' p xs := by
  rcases h with h | ⟨b, off, h1, h2⟩
  · exact Or.inl h
  · exact Or.inr ⟨b, off, h1, fun j hj => kkeep g (h2 j hj)⟩
theorem Arr.at {w : World} {p : Option Addr} {xs : List Int} (h : Arr w p xs) {k : Nat} (hk : k < xs.length) : ∃ b off, p = some ⟨b, off, none⟩ ∧ ∀ j, j < xs.length → w.cell? ⟨b, off + j, none⟩ = some (.int .u8 (xs.getD j 0)) := by
  rcases h with h | h
  · subst h; simp at hk
  · exact h
/-- block g is a row of n words, the first ones xs, the others 0 -/
def Rw (w : World) (g n : Nat) (xs : List Int) : Prop := w.rowIs g 5 n (fun j => .int .u8 (xs.getD j 0))
theorem rowIs_grown {w w' : World} {g : Nat} {t : TypeId} {n : Nat} {f : Nat → Value} (h : w.rowIs g t n f) (gr : Kp w w') : w'.rowIs g t n f := by
  exact h.of_block (Below.block gr g h.lt)
theorem Rw.grown {w w' : World} {g n : Nat} {xs : List Int} (h : Rw w g n xs) (gr : Kp w w') : Rw w' g n xs := rowIs_grown h gr
/-- a row, looked at as a slice -/
theorem Rw.arr {w : World} {g n : Nat} {xs : List Int} (h : Rw w g n xs) (k : Nat) (hk : k ≤ n) (hx : k ≤ xs.length) : Arr w (some ⟨g, 0, none⟩) (xs.take k) := by
  refine Or.inr ⟨g, 0, rfl, fun j hj => ?_⟩
  have hj2 : j < k := by simp at hj; omega
  rw [Nat.zero_add, World.rowIs.cell h (by omega)]
  simp [List.getD, hj2]
theorem inf8 : (Try.prog.info? 5).map (fun i => (i.zero, i.size, i.bytes)) = some (some (.int .u8 0), 1, 1) := by kernel_rfl
theorem mk8 (n : Nat) (h : n ≤ 1099511627776) (w : World) : (Instr.makeSlice 40 (.int .i64 (n : Int)) (.int .i64 (n : Int))).run Try.prog w = .ok (.slice (some ⟨w.heap.size, 0, none⟩) n n) (w.alloc (.cells (madeCells #[.int .u8 0] n) 5)) :=
  run_make_row' 40 5 (.int .u8 0) 1 Try.underlying40 inf8 rfl .i64 .i64 n (by omega) (by omega) w
theorem set_step {w : World} {t : TypeId} {g n k : Nat} {xs : List Int} (h : w.rowIs g t n (fun j => .int .u8 (if j < k then xs.getD j 0 else 0))) : (w.setCell ⟨g, k, none⟩ (.int .u8 (xs.getD k 0))).rowIs g t n (fun j => .int .u8 (if j < k + 1 then xs.getD j 0 else 0)) := by
  refine (h.set k (.int .u8 (xs.getD k 0))).congr (fun j _ => ?_)
  by_cases c : j = k
  · subst c; rw [if_pos rfl, if_pos (by omega)]
  · rw [if_neg c]
    by_cases d : j < k
    · rw [if_pos d, if_pos (by omega)]
    · rw [if_neg d, if_neg (by omega)]
/-- a list of the call's own: in a row from block 'base' on, or no list at all -/
def Own (w : World) (base : Nat) (v : Value) (xs : List Int) : Prop := w.ownsRow base 5 1 v xs.length (xs.map (Value.int .u8))
theorem Own.nil (w : World) (base : Nat) : Own w base (.slice none 0 0) [] := World.ownsRow_nil _ _ _ _
theorem Own.arr {w : World} {base : Nat} {v : Value} {xs : List Int} (h : Own w base v xs) : ∃ p c, v = .slice p xs.length c ∧ Arr w p xs ∧ xs.length ≤ c := by
  have hc : ∀ g, v.ownBlock = some g → ∀ j u, (xs.map (Value.int .u8))[j]? = some u → w.cell? ((⟨g, 0, none⟩ : Addr).add j) = some u := fun g hg => World.ownsRow.cells h hg
  rcases h.2 with ⟨h1, h2⟩ | ⟨g, cap, cur, h1, h2, h3, h4, h5, h6, h7⟩
  · have : xs = [] := List.length_eq_zero_iff.1 h2
    subst this
    exact ⟨none, 0, h1, Or.inl rfl, Nat.le_refl _⟩
  · refine ⟨_, cap, h1, Or.inr ⟨g, 0, rfl, fun j hj => ?_⟩, h4⟩
    have := hc g (by rw [h1]; rfl) j (.int .u8 (xs.getD j 0)) (by simp [List.getD, hj])
    have e : (⟨g, 0, none⟩ : Addr).add j = ⟨g, j, none⟩ := by
      unfold Addr.add
      by_cases c : j = 0
      · subst c; simp
      · simp [c]
    rw [Nat.zero_add, ← e]
    exact this
theorem Own.kp {w w' : World} {base : Nat} {v : Value} {xs : List Int} (h : Own w base v xs) (k : Kp w w') : Own w' base v xs := by
  refine ⟨h.1, ?_⟩
  rcases h.2 with h' | ⟨g, cap, cur, h1, h2, h3, h4, h5, h6, h7⟩
  · exact Or.inl h'
  · have hlt : g < w.heap.size := by
      by_cases c : g < w.heap.size
      · exact c
      · rw [Array.getElem?_eq_none (by simpa using c)] at h3; cases h3
    exact Or.inr ⟨g, cap, cur, h1, h2, by rw [Below.block k g hlt]; exact h3, h4, h5, h6, h7⟩
theorem Own.mono {w : World} {base base' : Nat} {v : Value} {xs : List Int} (h : Own w base v xs) (hb : base' ≤ base) : Own w base' v xs := by
  refine ⟨h.1, ?_⟩
  rcases h.2 with h' | ⟨g, cap, cur, h1, h2, h3⟩
  · exact Or.inl h'
  · exact Or.inr ⟨g, cap, cur, h1, Nat.le_trans hb h2, h3⟩
theorem inf8p : ∃ i, Try.prog.info? 5 = some i ∧ i.zero = some (.int .u8 0) ∧ i.size = 1 ∧ i.bytes = 1 := info_parts inf8
/-- one word more -/
theorem Own.push {w : World} {base : Nat} {v : Value} {xs : List Int} {X : Int} (h : w.ownsRow base 5 1 v (xs.length + 1) (xs.map (Value.int .u8) ++ [.int .u8 X])) : Own w base v (xs ++ [X]) := by
  unfold Own
  simpa using h
theorem own_block {w : World} {base : Nat} {v : Value} {xs : List Int} (h : Own w base v xs) : ∀ k, v.ownBlock = some k → base ≤ k := fun k hk => (h.lt k hk).1
theorem siz8 : (Try.prog.info? 5).map (·.size) = some 1 := by kernel_rfl
theorem Rw.set {w : World} {g n : Nat} {xs : List Int} (h : Rw w g n xs) (k : Nat) (x : Int) (hk : k < xs.length) : Rw (w.setCell ⟨g, k, none⟩ (.int .u8 x)) g n (xs.set k x) := by
  refine World.rowIs.congr (World.rowIs.set h k (.int .u8 x)) (fun j _ => ?_)
  by_cases c : j = k
  · subst c; rw [if_pos rfl]; simp [List.getD, hk]
  · have c' : ¬ k = j := fun h => c h.symm
    rw [if_neg c]; simp [List.getD, c']
theorem addr_add (b off j : Nat) : (⟨b, off, none⟩ : Addr).add j = ⟨b, off + j, none⟩ := by
  unfold Addr.add
  by_cases c : j = 0
  · subst c; simp
  · simp [c]
/-- copy into a part of a row -/
theorem copy8 (w : World) (g n o m c c' : Nat) (p : Option Addr) (xs : List Int) (f : Nat → Value) (hr : w.rowIs g 5 n f) (hx : Arr w p xs) (hl : xs.length = m) (ho : o + m ≤ n) :
    ∃ w2, (∀ ty, (Builtin.copy_ #[40, 40] ty #[.slice (some ⟨g, o, none⟩) m c', .slice p m c]).run Try.prog w = .ok (goInt m) w2) ∧
      w2.rowIs g 5 n (fun j => if o ≤ j ∧ j < o + m then .int .u8 (xs.getD (j - o) 0) else f j) ∧ (∀ W : World, W.heap.size ≤ g → Kp W w → Kp W w2) := by
  subst hl
  rcases hx with rfl | ⟨b, off, rfl, hc⟩
  · refine ⟨w, fun ty => run_copy_none w 40 40 ty 5 _ _ _ _ _ _ Try.underlying40 siz8 (by simp), hr.congr (fun j _ => by rw [if_neg (by simp)]), fun W _ h => h⟩
  · refine ⟨w.setCells g o (xs.map (Value.int .u8)), fun ty => ?_, ?_, fun W hW h => setCells_kp hW _ _ _ h⟩
    · have := run_copy_cells (P := Try.prog) w 40 40 ty 5 g o xs.length c' ⟨b, off, none⟩ xs.length c (xs.map (Value.int .u8)) Try.underlying40 siz8 (by simp)
        (fun j v hv => by
          have hj : j < xs.length := by
            have := List.getElem?_eq_some_iff.1 hv
            simpa using this.1
          rw [addr_add, hc j hj]
          simpa [List.getD, hj] using hv)
        (fun j hj => by rw [hr.cell (by simp at hj; omega)]; rfl) (fun j _ => hr.frozen _)
        (fun v hv => by obtain ⟨x, _, rfl⟩ := List.mem_map.1 hv; rfl)
      simpa using this
    · refine World.rowIs.congr (setCells_row (xs.map (Value.int .u8)) o w f hr) (fun j _ => ?_)
      by_cases c : o ≤ j ∧ j < o + xs.length
      · rw [if_pos c, if_pos (by simpa using c)]; simp [List.getD, show j - o < xs.length from by omega]
      · rw [if_neg c, if_neg (by simpa using c)]
end B8
end Go.Proofs.Ytipedmnipolmeaa
namespace Go.Proofs.Ytipedmnipolmeaa
open Go.RowKit
open Go
namespace X7
set_option linter.unusedVariables false
open B8
/-- v grew to v': all old blocks but v's row are as they were -/
def Gr (w w' : World) (v v' : Value) : Prop := w.grownBy w' v.ownBlock ∧ (v'.ownBlock = v.ownBlock ∨ ∃ g, v'.ownBlock = some g ∧ w.heap.size ≤ g)
theorem Gr.refl (w : World) (v : Value) : Gr w w v v := ⟨⟨rfl, rfl, rfl, Nat.le_refl _, fun _ _ _ => rfl⟩, Or.inl rfl⟩
theorem Gr.kp {w w' : World} (k : Kp w w') (v : Value) : Gr w w' v v := ⟨⟨k.os, k.tape, k.output, k.size, fun i hi _ => Below.block k i hi⟩, Or.inl rfl⟩
theorem Gr.trans {a b c : World} {u v x : Value} (h : Gr a b u v) (k : Gr b c v x) : Gr a c u x := by
  obtain ⟨h1, h2⟩ := h
  obtain ⟨k1, k2⟩ := k
  refine ⟨⟨k1.os.trans h1.os, k1.tape.trans h1.tape, k1.output.trans h1.output, Nat.le_trans h1.size k1.size, fun i hi hne => ?_⟩, ?_⟩
  · have e1 := h1.block i hi hne
    have e2 : c.heap[i]? = b.heap[i]? := k1.block i (Nat.lt_of_lt_of_le hi h1.size) (by
      rcases h2 with h2 | ⟨g, h2, hg⟩
      · rw [h2]; exact hne
      · rw [h2]; intro e; simp at e; omega)
    exact e2.trans e1
  · rcases k2 with k2 | ⟨g, k2, hg⟩
    · rcases h2 with h2 | ⟨g, h2, hg⟩
      · exact Or.inl (k2.trans h2)
      · exact Or.inr ⟨g, k2.trans h2, hg⟩
    · exact Or.inr ⟨g, k2, Nat.le_trans h1.size hg⟩
theorem Gr.ne {w w' : World} {v v' : Value} {b : Nat} (h : Gr w w' v v') (hne : v.ownBlock ≠ some b) (hb : b < w.heap.size) : v'.ownBlock ≠ some b := by
  rcases h.2 with h2 | ⟨g, h2, hg⟩
  · rw [h2]; exact hne
  · rw [h2]; intro e; simp at e; omega
theorem Gr.cell {w w' : World} {v v' : Value} {b o : Nat} {u : Value} (h : Gr w w' v v') (hne : v.ownBlock ≠ some b) (hc : w.cell? ⟨b, o, none⟩ = some u) : w'.cell? ⟨b, o, none⟩ = some u :=
  (h.1.cell_far ⟨b, o, none⟩ (cell_lt hc) (fun e => hne e.symm)).trans hc
theorem Gr.size {w w' : World} {v v' : Value} (h : Gr w w' v v') : w.heap.size ≤ w'.heap.size := h.1.size
theorem Gr.kp0 {W w w' : World} {v v' : Value} (h : Gr w w' v v') (k : Kp W w) (hv : ∀ g, v.ownBlock = some g → W.heap.size ≤ g) : Kp W w' := k.grown h.1 hv
/-- two bytes -/
def wd (n : Int) : List Int := [n % 256, n / 256 % 256]
/-- the first operands' bytes -/
def opB (x : I5) : Nat → List Int
  | 0 => []
  | 1 => wd x.2.1
  | 2 => wd x.2.1 ++ wd x.2.2.1
  | _ => wd x.2.1 ++ wd x.2.2.1 ++ wd x.2.2.2.1
def lnB (x : I5) : List Int := [x.1 % 256] ++ opB x (opN x.1).toNat ++ (if x.1 = 1 ∨ x.1 = 12 then wd x.2.2.2.2 else [])
def cB (q : Nat × Nat) : List Int := by8 q.1 ++ by8 q.2
def enc (V : Int) (ps : List (Nat × Nat)) (L : List I5) : List Int := [86, 71, 1, V % 256] ++ wd ps.length ++ ps.flatMap cB ++ wd L.length ++ L.flatMap lnB
theorem wd_len (n : Int) : (wd n).length = 2 := rfl
theorem opB_len (x : I5) (k : Nat) (h : k ≤ 3) : (opB x k).length = 2 * k := by
  rcases (show k = 0 ∨ k = 1 ∨ k = 2 ∨ k = 3 by omega) with rfl | rfl | rfl | rfl <;> rfl
theorem opN_b (x : Int) : 0 ≤ opN x ∧ opN x ≤ 3 := by unfold opN; split; decide; split; decide; split <;> decide
theorem lnB_len (x : I5) : (lnB x).length ≤ 9 := by
  unfold lnB
  have := opN_b x.1
  rw [List.length_append, List.length_append, opB_len _ _ (by omega)]
  split <;> simp [wd] <;> omega
theorem flatMap_take {α : Type} (f : α → List Int) (L : List α) (d : α) (i : Nat) (h : i < L.length) : (L.take (i + 1)).flatMap f = (L.take i).flatMap f ++ f (L.getD i d) := by
  rw [List.take_add_one, List.flatMap_append, List.getElem?_eq_getElem h]
  simp [List.getD, h]
theorem flatMap_len {α : Type} (f : α → List Int) (k : Nat) (hk : ∀ x, (f x).length ≤ k) : ∀ L : List α, (L.flatMap f).length ≤ k * L.length
  | [] => by simp
  | x :: r => by
    have h1 := hk x
    have h2 := flatMap_len f k hk r
    rw [List.flatMap_cons, List.length_append, List.length_cons, Nat.mul_add, Nat.mul_one]
    omega
theorem arr_news {w : World} {b off : Nat} {ys : List Int} (h : ∀ j, j < ys.length → w.cell? ⟨b, off + j, none⟩ = some (.int .u8 (ys.getD j 0))) : ∀ j u, (ys.map (Value.int .u8))[j]? = some u → w.cell? ((⟨b, off, none⟩ : Addr).add j) = some u := by
  intro j u hu
  have hj : j < ys.length := by
    have := (List.getElem?_eq_some_iff.1 hu).1
    simpa using this
  rw [B8.addr_add, h j hj]
  simpa [List.getD, hj] using hu
theorem one_u8 (ys : List Int) : ∀ u ∈ ys.map (Value.int .u8), u.oneCell' = true := by
  intro u hu
  obtain ⟨x, _, rfl⟩ := List.mem_map.1 hu
  rfl
theorem own_app {w : World} {base : Nat} {v : Value} {xs ys : List Int} {m : Nat} (hm : ys.length = m) (h : w.ownsRow base 5 1 v (xs.length + m) (xs.map (Value.int .u8) ++ ys.map (Value.int .u8))) : Own w base v (xs ++ ys) := by
  subst hm
  unfold Own
  rw [List.length_append, List.map_append]
  exact h
end X7
end Go.Proofs.Ytipedmnipolmeaa
namespace Go.Proofs.Ytipedmnipolmeaa
open Go.RowKit
open Go
namespace X7
set_option linter.unusedVariables false
open B8
theorem i64_and255 (n : Int) : bits .and .i64 n 255 = n % 256 := by
  have h : (BitVec.ofInt 64 n &&& BitVec.ofInt 64 255).toNat = (n % ((2 ^ 64 : Nat) : Int)).toNat % 2 ^ 8 := by
    rw [BitVec.toNat_and, BitVec.toNat_ofInt, show (BitVec.ofInt 64 255).toNat = 2 ^ 8 - 1 from by decide, Nat.and_two_pow_sub_one_eq_mod]
  show IntKind.i64.wrap ((BitVec.ofInt 64 n &&& BitVec.ofInt 64 255).toNat : Nat) = n % 256
  rw [h, IntKind.wrap_i64]
  omega
set_option maxRecDepth 20000 in
set_option maxHeartbeats 1000000 in
theorem layWord_ (base : Nat) (v : Value) (xs : List Int) (n : Int) (hn : -32768 ≤ n ∧ n ≤ 65535) (w : World) (h : Own w base v xs) (hb : base ≤ w.heap.size) (hl : xs.length ≤ 1000000) :
    Calls Try.prog 48 #[v, .int .i64 n] w fun e w' => ∃ v', e = .returned v' ∧ Own w' base v' (xs ++ wd n) ∧ Gr w w' v v' := by
  obtain ⟨i0, hi0, hi1, hi2, hi3⟩ := inf8p
  have kA : Kp w (w.alloc (.cells #[.int .u8 (n % 256), .int .u8 (n / 256 % 256)] 5)) := (Kp.refl w).alloc _
  have hc : ∀ j, j < (wd n).length → (w.alloc (.cells #[.int .u8 (n % 256), .int .u8 (n / 256 % 256)] 5)).cell? ⟨w.heap.size, 0 + j, none⟩ = some (.int .u8 ((wd n).getD j 0)) := fun j hj => by
    rw [wd_len] at hj
    rcases (show j = 0 ∨ j = 1 by omega) with rfl | rfl <;> simp [go_sem, wd]
  have hnw := arr_news hc
  clear hn hc
  go_enter Try.func48, Try.ntmps48
  go_wp2_with (first | (at_builtin; refine wpList_append_own_at _ rfl _ _ 40 rfl base 5 i0 (.int .u8 0) 1 1 Try.underlying40 hi0 hi1 hi2 hi3 rfl (by decide) _ _ _ rfl (World.ownsRow.alloc h _) ⟨w.heap.size, 0, none⟩ 2 2 ((wd n).map (Value.int .u8)) rfl ?zl hnw (one_u8 _) ?zm ?zb ?zs ?_))
  case zl => rw [List.length_map]; rfl
  case zm => unfold maxLen; omega
  case zb => omega
  case zs => simp; omega
  intro v' w2 hown2 hgrow _ hat
  have hO : Own w2 base v' (xs ++ wd n) := own_app rfl hown2
  have hG : Gr w w2 v v' := (Gr.kp kA v).trans ⟨hgrow, hat.imp id (fun e => ⟨_, e, by simp⟩)⟩
  clear hown2 hgrow hat hnw kA h
  go_wp2
  exact bodyPost_ret (v := v') (by simp [results, Try.results48, go_sem]) rfl ⟨_, rfl, hO, hG⟩
set_option maxRecDepth 20000 in
set_option maxHeartbeats 1000000 in
theorem two_ (n : Int) (w : World) (hn : -32768 ≤ n ∧ n ≤ 65535) :
    Calls Try.prog 30 #[.int .i64 n] w fun e w' => ∃ g, e = .returned (.slice (some ⟨g, 0, none⟩) 2 2) ∧ w.heap.size ≤ g ∧ (∀ j, j < (wd n).length → w'.cell? ⟨g, 0 + j, none⟩ = some (.int .u8 ((wd n).getD j 0))) ∧ Kp w w' := by
  have e1 := i64_and255 n
  have e2 := i64_and255 (n / 256)
  have hc : ∀ j, j < (wd n).length → (w.alloc (.cells #[.int .u8 (n % 256), .int .u8 (n / 256 % 256)] 5)).cell? ⟨w.heap.size, 0 + j, none⟩ = some (.int .u8 ((wd n).getD j 0)) := fun j hj => by
    rw [wd_len] at hj
    rcases (show j = 0 ∨ j = 1 by omega) with rfl | rfl <;> simp [go_sem, wd]
  have kA : Kp w (w.alloc (.cells #[.int .u8 (n % 256), .int .u8 (n / 256 % 256)] 5)) := (Kp.refl w).alloc _
  have m1 : n % 256 % 256 = n % 256 := by omega
  have m2 : n / 256 % 256 % 256 = n / 256 % 256 := by omega
  go_enter Try.func30, Try.ntmps30
  go_wp2
  try rw [m1, m2]
  exact bodyPost_ret (v := .slice (some ⟨w.heap.size, 0, none⟩) 2 2) (by simp [results, Try.results30, go_sem]) rfl ⟨_, rfl, Nat.le_refl _, hc, kA⟩
end X7
end Go.Proofs.Ytipedmnipolmeaa
namespace Go.Proofs.Ytipedmnipolmeaa
open Go.RowKit
open Go
namespace X7
set_option linter.unusedVariables false
open B8
set_option maxRecDepth 20000 in
set_option maxHeartbeats 400000 in
theorem numbered_ (x : Int) (w : World) : Calls Try.prog 66 #[.int .i64 x] w fun e w' => e = .returned (.bool (decide (x = 1 ∨ x = 12))) ∧ w' = w := by
  by_cases c1 : x = 1
  · subst c1
    go_enter Try.func66, Try.ntmps66
    go_wp2
    exact bodyPost_ret (v := .bool true) (by simp [results, Try.results66, go_sem]) rfl ⟨rfl, rfl⟩
  by_cases c2 : x = 12
  · subst c2
    go_enter Try.func66, Try.ntmps66
    go_wp2
    exact bodyPost_ret (v := .bool true) (by simp [results, Try.results66, go_sem]) rfl ⟨rfl, rfl⟩
  rw [decide_eq_false (by omega)]
  have d1 : (x == 1) = false := beq_eq_false_iff_ne.2 c1
  have d2 : (x == 12) = false := beq_eq_false_iff_ne.2 c2
  go_enter Try.func66, Try.ntmps66
  go_wp2
  exact bodyPost_ret (v := .bool false) (by simp [results, Try.results66, go_sem]) rfl ⟨rfl, rfl⟩
set_option maxRecDepth 20000 in
set_option maxHeartbeats 4000000 in
theorem layLine_ (base : Nat) (v : Value) (xs : List Int) (x0 x1 x2 x3 x4 : Int) (hx : (-32768 ≤ x1 ∧ x1 ≤ 65535) ∧ (-32768 ≤ x2 ∧ x2 ≤ 65535) ∧ (-32768 ≤ x3 ∧ x3 ≤ 65535) ∧ (-32768 ≤ x4 ∧ x4 ≤ 65535)) (w : World) (h : Own w base v xs) (hb : base ≤ w.heap.size) (hl : xs.length ≤ 999990) :
    Calls Try.prog 50 #[v, .agg #[.int .i64 x0, .int .i64 x1, .int .i64 x2, .int .i64 x3, .int .i64 x4]] w fun e w' => ∃ v', e = .returned v' ∧ Own w' base v' (xs ++ lnB (x0, x1, x2, x3, x4)) ∧ Gr w w' v v' := by
  obtain ⟨i0, hi0, hi1, hi2, hi3⟩ := inf8p
  have hop := operands_ x0
  obtain ⟨U, hU⟩ : ∃ U : Int, U = opN x0 := ⟨_, rfl⟩
  rw [← hU] at hop
  have hUb := opN_b x0
  have HX : Hid (U = opN x0 ∧ ((-32768 ≤ x1 ∧ x1 ≤ 65535) ∧ (-32768 ≤ x2 ∧ x2 ≤ 65535) ∧ (-32768 ≤ x3 ∧ x3 ≤ 65535) ∧ (-32768 ≤ x4 ∧ x4 ≤ 65535)) ∧ xs.length ≤ 999990) := ⟨hU, hx, hl⟩
  rw [← hU] at hUb
  have kA : Kp w ((w.alloc (.cells #[.int .i64 x0, .int .i64 x1, .int .i64 x2, .int .i64 x3, .int .i64 x4] 62)).alloc (.cells #[.int .u8 (x0 % 256)] 5)) := ((Kp.refl w).alloc _).alloc _
  have hvl := World.ownsRow.lt h
  have q0 : (w.alloc (.cells #[.int .i64 x0, .int .i64 x1, .int .i64 x2, .int .i64 x3, .int .i64 x4] 62)).cell? ⟨w.heap.size, 0, none⟩ = some (.int .i64 x0) := by simp [go_sem]
  have q1 : (w.alloc (.cells #[.int .i64 x0, .int .i64 x1, .int .i64 x2, .int .i64 x3, .int .i64 x4] 62)).cell? ⟨w.heap.size, 1, none⟩ = some (.int .i64 x1) := by simp [go_sem]
  have q2 : (w.alloc (.cells #[.int .i64 x0, .int .i64 x1, .int .i64 x2, .int .i64 x3, .int .i64 x4] 62)).cell? ⟨w.heap.size, 2, none⟩ = some (.int .i64 x2) := by simp [go_sem]
  have q3 : (w.alloc (.cells #[.int .i64 x0, .int .i64 x1, .int .i64 x2, .int .i64 x3, .int .i64 x4] 62)).cell? ⟨w.heap.size, 3, none⟩ = some (.int .i64 x3) := by simp [go_sem]
  have q4 : (w.alloc (.cells #[.int .i64 x0, .int .i64 x1, .int .i64 x2, .int .i64 x3, .int .i64 x4] 62)).cell? ⟨w.heap.size, 4, none⟩ = some (.int .i64 x4) := by simp [go_sem]
  have kB : Kp (w.alloc (.cells #[.int .i64 x0, .int .i64 x1, .int .i64 x2, .int .i64 x3, .int .i64 x4] 62)) ((w.alloc (.cells #[.int .i64 x0, .int .i64 x1, .int .i64 x2, .int .i64 x3, .int .i64 x4] 62)).alloc (.cells #[.int .u8 (x0 % 256)] 5)) := (Kp.refl _).alloc _
  have p0 := kkeep kB q0
  have p1 := kkeep kB q1
  have p2 := kkeep kB q2
  have p3 := kkeep kB q3
  have p4 := kkeep kB q4
  have hnw : ∀ i u, ([x0 % 256].map (Value.int .u8))[i]? = some u → ((w.alloc (.cells #[.int .i64 x0, .int .i64 x1, .int .i64 x2, .int .i64 x3, .int .i64 x4] 62)).alloc (.cells #[.int .u8 (x0 % 256)] 5)).cell? ((⟨w.heap.size + 1, 0, none⟩ : Addr).add i) = some u := fun i u hu => by
    have h := cell_one_new (w.alloc (.cells #[.int .i64 x0, .int .i64 x1, .int .i64 x2, .int .i64 x3, .int .i64 x4] 62)) (.int .u8 (x0 % 256)) 5 i u hu
    simpa using h
  have hne : v.ownBlock ≠ some w.heap.size := fun e => by have := (hvl _ e).2; omega
  clear hx hU hl kB
  go_enter Try.func50, Try.ntmps50
  go_upto_region 2 with (first | (at_builtin; refine wpList_append_own_at _ rfl _ _ 40 rfl base 5 i0 (.int .u8 0) 1 1 Try.underlying40 hi0 hi1 hi2 hi3 rfl (by decide) _ _ _ rfl ((World.ownsRow.alloc h _).alloc _) ⟨w.heap.size + 1, 0, none⟩ 1 1 (([x0 % 256]).map (Value.int .u8)) rfl ?zl hnw (one_u8 _) ?zm ?zb ?zs ?_))
  case zl => rfl
  case zm => have := HX.out.2.2; unfold maxLen; omega
  case zb => have := HX.out.2.2; omega
  case zs => simp; omega
  intro v9 w1 hown2 hgrow _ hat
  have hO : Own w1 base v9 (xs ++ [x0 % 256]) := own_app rfl hown2
  have hG1 : Gr ((w.alloc (.cells #[.int .i64 x0, .int .i64 x1, .int .i64 x2, .int .i64 x3, .int .i64 x4] 62)).alloc (.cells #[.int .u8 (x0 % 256)] 5)) w1 v v9 := ⟨hgrow, hat.imp id (fun e => ⟨_, e, by simp⟩)⟩
  have hG : Gr w w1 v v9 := (Gr.kp kA v).trans hG1
  replace p0 := hG1.cell hne p0
  replace p1 := hG1.cell hne p1
  replace p2 := hG1.cell hne p2
  replace p3 := hG1.cell hne p3
  replace p4 := hG1.cell hne p4
  have hn3 : v9.ownBlock ≠ some w.heap.size := hG1.ne hne (by simp; omega)
  have hv9 := World.ownsRow.lt hO
  have hb9 : base ≤ w1.heap.size := Nat.le_trans hb hG.size
  clear hown2 hgrow hat hnw kA q0 q1 q2 q3 q4 hne hvl hG1 h hb
  go_upto_region 2 with fail
  have kC : Kp w1 (w1.alloc (.cells #[.int .i64 x1, .int .i64 x2, .int .i64 x3] 101)) := (Kp.refl w1).alloc _
  have z0 : (w1.alloc (.cells #[.int .i64 x1, .int .i64 x2, .int .i64 x3] 101)).cell? ⟨w1.heap.size, 0, none⟩ = some (.int .i64 x1) := by simp [go_sem]
  have z1 : (w1.alloc (.cells #[.int .i64 x1, .int .i64 x2, .int .i64 x3] 101)).cell? ⟨w1.heap.size, 1, none⟩ = some (.int .i64 x2) := by simp [go_sem]
  have z2 : (w1.alloc (.cells #[.int .i64 x1, .int .i64 x2, .int .i64 x3] 101)).cell? ⟨w1.heap.size, 2, none⟩ = some (.int .i64 x3) := by simp [go_sem]
  have y0 := kkeep kC p0
  have y4 := kkeep kC p4
  have hO2 := hO.kp kC
  have hG2 : Gr w (w1.alloc (.cells #[.int .i64 x1, .int .i64 x2, .int .i64 x3] 101)) v v9 := hG.trans (Gr.kp kC v9)
  have hn5 : v9.ownBlock ≠ some w1.heap.size := fun e => by have := (hv9 _ e).2; omega
  have hb2 : base ≤ (w1.alloc (.cells #[.int .i64 x1, .int .i64 x2, .int .i64 x3] 101)).heap.size := Nat.le_trans hb9 kC.size
  go_upto_region 3 with fail
  generalize (w1.alloc (.cells #[.int .i64 x1, .int .i64 x2, .int .i64 x3] 101)) = W2 at z0 z1 z2 y0 y4 hO2 hG2 hb2 ⊢
  generalize w1.heap.size = B5 at z0 z1 z2 hn5 ⊢
  generalize hB3 : w.heap.size = B3 at y0 y4 hn3 p0 p1 p2 p3 p4 ⊢
  clear hO hG hv9 hb9 kC p0 p1 p2 p3 p4 hB3
  go_wp2_with (first | (go_at_call 42; refine (hop _).mono ?_; rintro e w' ⟨rfl, hw'⟩; obtain rfl := hw'.symm; clear hw'))
  have HS : Hid (Own W2 base v9 (xs ++ [x0 % 256] ++ opB (x0, x1, x2, x3, x4) 0) ∧ Gr w W2 v v9 ∧ W2.cell? ⟨B3, 0, none⟩ = some (.int .i64 x0) ∧ W2.cell? ⟨B3, 4, none⟩ = some (.int .i64 x4) ∧ W2.cell? ⟨B5, 0, none⟩ = some (.int .i64 x1) ∧ W2.cell? ⟨B5, 1, none⟩ = some (.int .i64 x2) ∧ W2.cell? ⟨B5, 2, none⟩ = some (.int .i64 x3) ∧ v9.ownBlock ≠ some B3 ∧ v9.ownBlock ≠ some B5 ∧ base ≤ W2.heap.size) := ⟨by simpa [opB] using hO2, hG2, y0, y4, z0, z1, z2, hn3, hn5, hb2⟩
  clear hO2 hG2 y0 y4 z0 z1 z2 hn3 hn5 hb2 hop
  go_loopw [0, 6, 23] (fun s0 s6 s23 wr => ∃ (j : Nat) (v9 : Value), ((j = 0 ∧ s23 = .int .i64 0) ∨ (j = 1 ∧ s23 = .int .i64 1) ∨ (j = 2 ∧ s23 = .int .i64 2) ∨ (j = 3 ∧ s23 = .int .i64 3)) ∧ v9 = s0 ∧ (j : Int) ≤ U ∧ Own wr base v9 (xs ++ [x0 % 256] ++ opB (x0, x1, x2, x3, x4) j) ∧ Gr w wr v v9 ∧ wr.cell? ⟨B3, 0, none⟩ = some (.int .i64 x0) ∧ wr.cell? ⟨B3, 4, none⟩ = some (.int .i64 x4) ∧ wr.cell? ⟨B5, 0, none⟩ = some (.int .i64 x1) ∧ wr.cell? ⟨B5, 1, none⟩ = some (.int .i64 x2) ∧ wr.cell? ⟨B5, 2, none⟩ = some (.int .i64 x3) ∧ v9.ownBlock ≠ some B3 ∧ v9.ownBlock ≠ some B5 ∧ base ≤ wr.heap.size) (fun _ _ s23 _ => 3 - (intOf s23).toNat)
  case atStart => exact ⟨0, v9, Or.inl ⟨rfl, rfl⟩, rfl, hUb.1, HS.out⟩
  case round =>
    obtain ⟨j, v9, hj, rfl, hjU, hO, hG, y0, y4, z0, z1, z2, hn3, hn5, hb9⟩ := hrel
    clear HS
    rcases hj with ⟨rfl, rfl⟩ | ⟨rfl, rfl⟩ | ⟨rfl, rfl⟩ | ⟨rfl, rfl⟩
    · by_cases cu : (0 : Int) < U
      · have hlw := layWord_ base v9 (xs ++ [x0 % 256] ++ opB (x0, x1, x2, x3, x4) 0) x1 HX.out.2.1.1 wr hO hb9 (by
          have := HX.out.2.2
          rw [List.length_append, List.length_append, opB_len _ _ (by decide)]
          simp
          omega)
        have HG : Hid ((0 : Int) < U) := cu
        have hix : ∀ w : World, True := fun _ => trivial
        clear hix
        go_wp2_with (first | (go_at_call 48; refine hlw.mono ?_; rintro e w5 ⟨v5, rfl, o5, g5⟩))
        refine ⟨⟨1, v5, Or.inr (Or.inl ⟨rfl, rfl⟩), rfl, by have := HG.out; omega, ?_, hG.trans g5, g5.cell hn3 y0, g5.cell hn3 y4, g5.cell hn5 z0, g5.cell hn5 z1, g5.cell hn5 z2, g5.ne hn3 (cell_lt y0), g5.ne hn5 (cell_lt z0), Nat.le_trans hb9 g5.size⟩, by decide⟩
        have e : xs ++ [x0 % 256] ++ opB (x0, x1, x2, x3, x4) 1 = xs ++ [x0 % 256] ++ opB (x0, x1, x2, x3, x4) 0 ++ wd x1 := by simp [opB, List.append_assoc]
        rw [e]; exact o5
      · obtain rfl : U = 0 := by omega
        have hH := HX.out
        rw [show opB (x0, x1, x2, x3, x4) 0 = opB (x0, x1, x2, x3, x4) (opN x0).toNat from by rw [← hH.1]; rfl] at hO
        have hl9 : (xs ++ [x0 % 256] ++ opB (x0, x1, x2, x3, x4) (opN x0).toNat).length ≤ 1000000 := by
          rw [List.length_append, List.length_append, opB_len _ _ (by have := opN_b x0; omega)]
          have := opN_b x0
          have := hH.2.2
          simp
          omega
        have hlw := fun (W : World) (h : Own W base v9 (xs ++ [x0 % 256] ++ opB (x0, x1, x2, x3, x4) (opN x0).toNat)) (hb : base ≤ W.heap.size) => layWord_ base v9 (xs ++ [x0 % 256] ++ opB (x0, x1, x2, x3, x4) (opN x0).toNat) x4 hH.2.1.2.2.2 W h hb hl9
        have hnu := numbered_ x0
        by_cases cn : x0 = 1 ∨ x0 = 12
        · rw [decide_eq_true cn] at hnu
          have HL : Hid (lnB (x0, x1, x2, x3, x4) = [x0 % 256] ++ opB (x0, x1, x2, x3, x4) (opN x0).toNat ++ wd x4) := by show _ = _; unfold lnB; rw [if_pos cn]
          clear cn hH hl9 HX
          go_wp2_with (first | (go_at_call 66; refine (hnu _).mono ?_; rintro e w' ⟨rfl, hw'⟩; obtain rfl := hw'.symm; clear hw') | (go_at_call 48; refine (hlw _ hO hb9).mono ?_; rintro e w5 ⟨v5, rfl, o5, g5⟩))
          exact bodyPost_ret (v := v5) (by simp [results, Try.results50, go_sem]) rfl ⟨_, rfl, by rw [HL.out]; simpa [List.append_assoc] using o5, hG.trans g5⟩
        · rw [decide_eq_false cn] at hnu
          have HL : Hid (lnB (x0, x1, x2, x3, x4) = [x0 % 256] ++ opB (x0, x1, x2, x3, x4) (opN x0).toNat) := by show _ = _; unfold lnB; rw [if_neg cn, List.append_nil]
          clear cn hH hl9 hlw HX
          go_wp2_with (first | (go_at_call 66; refine (hnu _).mono ?_; rintro e w' ⟨rfl, hw'⟩; obtain rfl := hw'.symm; clear hw'))
          exact bodyPost_ret (v := v9) (by simp [results, Try.results50, go_sem]) rfl ⟨_, rfl, by rw [HL.out, ← List.append_assoc]; exact hO, hG⟩
    · by_cases cu : (1 : Int) < U
      · have hlw := layWord_ base v9 (xs ++ [x0 % 256] ++ opB (x0, x1, x2, x3, x4) 1) x2 HX.out.2.1.2.1 wr hO hb9 (by
          have := HX.out.2.2
          rw [List.length_append, List.length_append, opB_len _ _ (by decide)]
          simp
          omega)
        have HG : Hid ((1 : Int) < U) := cu
        have hix : ∀ w : World, True := fun _ => trivial
        clear hix
        go_wp2_with (first | (go_at_call 48; refine hlw.mono ?_; rintro e w5 ⟨v5, rfl, o5, g5⟩))
        refine ⟨⟨2, v5, Or.inr (Or.inr (Or.inl ⟨rfl, rfl⟩)), rfl, by have := HG.out; omega, ?_, hG.trans g5, g5.cell hn3 y0, g5.cell hn3 y4, g5.cell hn5 z0, g5.cell hn5 z1, g5.cell hn5 z2, g5.ne hn3 (cell_lt y0), g5.ne hn5 (cell_lt z0), Nat.le_trans hb9 g5.size⟩, by decide⟩
        have e : xs ++ [x0 % 256] ++ opB (x0, x1, x2, x3, x4) 2 = xs ++ [x0 % 256] ++ opB (x0, x1, x2, x3, x4) 1 ++ wd x2 := by simp [opB, List.append_assoc]
        rw [e]; exact o5
      · obtain rfl : U = 1 := by omega
        have hH := HX.out
        rw [show opB (x0, x1, x2, x3, x4) 1 = opB (x0, x1, x2, x3, x4) (opN x0).toNat from by rw [← hH.1]; rfl] at hO
        have hl9 : (xs ++ [x0 % 256] ++ opB (x0, x1, x2, x3, x4) (opN x0).toNat).length ≤ 1000000 := by
          rw [List.length_append, List.length_append, opB_len _ _ (by have := opN_b x0; omega)]
          have := opN_b x0
          have := hH.2.2
          simp
          omega
        have hlw := fun (W : World) (h : Own W base v9 (xs ++ [x0 % 256] ++ opB (x0, x1, x2, x3, x4) (opN x0).toNat)) (hb : base ≤ W.heap.size) => layWord_ base v9 (xs ++ [x0 % 256] ++ opB (x0, x1, x2, x3, x4) (opN x0).toNat) x4 hH.2.1.2.2.2 W h hb hl9
        have hnu := numbered_ x0
        by_cases cn : x0 = 1 ∨ x0 = 12
        · rw [decide_eq_true cn] at hnu
          have HL : Hid (lnB (x0, x1, x2, x3, x4) = [x0 % 256] ++ opB (x0, x1, x2, x3, x4) (opN x0).toNat ++ wd x4) := by show _ = _; unfold lnB; rw [if_pos cn]
          clear cn hH hl9 HX
          go_wp2_with (first | (go_at_call 66; refine (hnu _).mono ?_; rintro e w' ⟨rfl, hw'⟩; obtain rfl := hw'.symm; clear hw') | (go_at_call 48; refine (hlw _ hO hb9).mono ?_; rintro e w5 ⟨v5, rfl, o5, g5⟩))
          exact bodyPost_ret (v := v5) (by simp [results, Try.results50, go_sem]) rfl ⟨_, rfl, by rw [HL.out]; simpa [List.append_assoc] using o5, hG.trans g5⟩
        · rw [decide_eq_false cn] at hnu
          have HL : Hid (lnB (x0, x1, x2, x3, x4) = [x0 % 256] ++ opB (x0, x1, x2, x3, x4) (opN x0).toNat) := by show _ = _; unfold lnB; rw [if_neg cn, List.append_nil]
          clear cn hH hl9 hlw HX
          go_wp2_with (first | (go_at_call 66; refine (hnu _).mono ?_; rintro e w' ⟨rfl, hw'⟩; obtain rfl := hw'.symm; clear hw'))
          exact bodyPost_ret (v := v9) (by simp [results, Try.results50, go_sem]) rfl ⟨_, rfl, by rw [HL.out, ← List.append_assoc]; exact hO, hG⟩
    · by_cases cu : (2 : Int) < U
      · have hlw := layWord_ base v9 (xs ++ [x0 % 256] ++ opB (x0, x1, x2, x3, x4) 2) x3 HX.out.2.1.2.2.1 wr hO hb9 (by
          have := HX.out.2.2
          rw [List.length_append, List.length_append, opB_len _ _ (by decide)]
          simp
          omega)
        have HG : Hid ((2 : Int) < U) := cu
        have hix : ∀ w : World, True := fun _ => trivial
        clear hix
        go_wp2_with (first | (go_at_call 48; refine hlw.mono ?_; rintro e w5 ⟨v5, rfl, o5, g5⟩))
        refine ⟨⟨3, v5, Or.inr (Or.inr (Or.inr ⟨rfl, rfl⟩)), rfl, by have := HG.out; omega, ?_, hG.trans g5, g5.cell hn3 y0, g5.cell hn3 y4, g5.cell hn5 z0, g5.cell hn5 z1, g5.cell hn5 z2, g5.ne hn3 (cell_lt y0), g5.ne hn5 (cell_lt z0), Nat.le_trans hb9 g5.size⟩, by decide⟩
        have e : xs ++ [x0 % 256] ++ opB (x0, x1, x2, x3, x4) 3 = xs ++ [x0 % 256] ++ opB (x0, x1, x2, x3, x4) 2 ++ wd x3 := by simp [opB, List.append_assoc]
        rw [e]; exact o5
      · obtain rfl : U = 2 := by omega
        have hH := HX.out
        rw [show opB (x0, x1, x2, x3, x4) 2 = opB (x0, x1, x2, x3, x4) (opN x0).toNat from by rw [← hH.1]; rfl] at hO
        have hl9 : (xs ++ [x0 % 256] ++ opB (x0, x1, x2, x3, x4) (opN x0).toNat).length ≤ 1000000 := by
          rw [List.length_append, List.length_append, opB_len _ _ (by have := opN_b x0; omega)]
          have := opN_b x0
          have := hH.2.2
          simp
          omega
        have hlw := fun (W : World) (h : Own W base v9 (xs ++ [x0 % 256] ++ opB (x0, x1, x2, x3, x4) (opN x0).toNat)) (hb : base ≤ W.heap.size) => layWord_ base v9 (xs ++ [x0 % 256] ++ opB (x0, x1, x2, x3, x4) (opN x0).toNat) x4 hH.2.1.2.2.2 W h hb hl9
        have hnu := numbered_ x0
        by_cases cn : x0 = 1 ∨ x0 = 12
        · rw [decide_eq_true cn] at hnu
          have HL : Hid (lnB (x0, x1, x2, x3, x4) = [x0 % 256] ++ opB (x0, x1, x2, x3, x4) (opN x0).toNat ++ wd x4) := by show _ = _; unfold lnB; rw [if_pos cn]
          clear cn hH hl9 HX
          go_wp2_with (first | (go_at_call 66; refine (hnu _).mono ?_; rintro e w' ⟨rfl, hw'⟩; obtain rfl := hw'.symm; clear hw') | (go_at_call 48; refine (hlw _ hO hb9).mono ?_; rintro e w5 ⟨v5, rfl, o5, g5⟩))
          exact bodyPost_ret (v := v5) (by simp [results, Try.results50, go_sem]) rfl ⟨_, rfl, by rw [HL.out]; simpa [List.append_assoc] using o5, hG.trans g5⟩
        · rw [decide_eq_false cn] at hnu
          have HL : Hid (lnB (x0, x1, x2, x3, x4) = [x0 % 256] ++ opB (x0, x1, x2, x3, x4) (opN x0).toNat) := by show _ = _; unfold lnB; rw [if_neg cn, List.append_nil]
          clear cn hH hl9 hlw HX
          go_wp2_with (first | (go_at_call 66; refine (hnu _).mono ?_; rintro e w' ⟨rfl, hw'⟩; obtain rfl := hw'.symm; clear hw'))
          exact bodyPost_ret (v := v9) (by simp [results, Try.results50, go_sem]) rfl ⟨_, rfl, by rw [HL.out, ← List.append_assoc]; exact hO, hG⟩
    · have cu : ¬ ((3 : Int) < U) := by omega
      obtain rfl : U = 3 := by omega
      have hH := HX.out
      rw [show opB (x0, x1, x2, x3, x4) 3 = opB (x0, x1, x2, x3, x4) (opN x0).toNat from by rw [← hH.1]; rfl] at hO
      have hl9 : (xs ++ [x0 % 256] ++ opB (x0, x1, x2, x3, x4) (opN x0).toNat).length ≤ 1000000 := by
        rw [List.length_append, List.length_append, opB_len _ _ (by have := opN_b x0; omega)]
        have := opN_b x0
        have := hH.2.2
        simp
        omega
      have hlw := fun (W : World) (h : Own W base v9 (xs ++ [x0 % 256] ++ opB (x0, x1, x2, x3, x4) (opN x0).toNat)) (hb : base ≤ W.heap.size) => layWord_ base v9 (xs ++ [x0 % 256] ++ opB (x0, x1, x2, x3, x4) (opN x0).toNat) x4 hH.2.1.2.2.2 W h hb hl9
      have hnu := numbered_ x0
      by_cases cn : x0 = 1 ∨ x0 = 12
      · rw [decide_eq_true cn] at hnu
        have HL : Hid (lnB (x0, x1, x2, x3, x4) = [x0 % 256] ++ opB (x0, x1, x2, x3, x4) (opN x0).toNat ++ wd x4) := by show _ = _; unfold lnB; rw [if_pos cn]
        clear cn hH hl9 HX
        go_wp2_with (first | (go_at_call 66; refine (hnu _).mono ?_; rintro e w' ⟨rfl, hw'⟩; obtain rfl := hw'.symm; clear hw') | (go_at_call 48; refine (hlw _ hO hb9).mono ?_; rintro e w5 ⟨v5, rfl, o5, g5⟩))
        exact bodyPost_ret (v := v5) (by simp [results, Try.results50, go_sem]) rfl ⟨_, rfl, by rw [HL.out]; simpa [List.append_assoc] using o5, hG.trans g5⟩
      · rw [decide_eq_false cn] at hnu
        have HL : Hid (lnB (x0, x1, x2, x3, x4) = [x0 % 256] ++ opB (x0, x1, x2, x3, x4) (opN x0).toNat) := by show _ = _; unfold lnB; rw [if_neg cn, List.append_nil]
        clear cn hH hl9 hlw HX
        go_wp2_with (first | (go_at_call 66; refine (hnu _).mono ?_; rintro e w' ⟨rfl, hw'⟩; obtain rfl := hw'.symm; clear hw'))
        exact bodyPost_ret (v := v9) (by simp [results, Try.results50, go_sem]) rfl ⟨_, rfl, by rw [HL.out, ← List.append_assoc]; exact hO, hG⟩
end X7
end Go.Proofs.Ytipedmnipolmeaa
namespace Go.Proofs.Ytipedmnipolmeaa
open Go.RowKit
namespace Fq
theorem H2.two (w : World) (a b c d : Value) (s t : TypeId) : H2 (((w.alloc (.cells #[a, b] s)).drew).alloc (.cells #[c, d] t)) (w.heap.size + 1) c d := by
  unfold H2; simp [go_sem]
theorem H2.put {w : World} {b : Nat} {u v : Value} (h : H2 w b u v) (u' v' : Value) : H2 ((w.setCell ⟨b, 0, none⟩ u').setCell ⟨b, 1, none⟩ v') b u' v' := by
  obtain ⟨h0, h1, h2, h3⟩ := h
  unfold H2; simp [go_sem, h0, h1, h2, h3]
theorem H2.far {w : World} {b : Nat} {u v : Value} (h : H2 w b u v) {c : Nat} (hne : c ≠ b) (u' v' : Value) : H2 ((w.setCell ⟨c, 0, none⟩ u').setCell ⟨c, 1, none⟩ v') b u v := by
  obtain ⟨h0, h1, h2, h3⟩ := h
  refine ⟨?_, ?_, ?_, ?_⟩
  · rw [World.cell?_setCell_far _ _ _ _ (by simpa using hne), World.cell?_setCell_far _ _ _ _ (by simpa using hne)]; exact h0
  · rw [World.cell?_setCell_far _ _ _ _ (by simpa using hne), World.cell?_setCell_far _ _ _ _ (by simpa using hne)]; exact h1
  · simp only [World.frozen?_setCell]; exact h2
  · simp only [World.frozen?_setCell]; exact h3
end Fq
end Go.Proofs.Ytipedmnipolmeaa
namespace Go.Proofs.Ytipedmnipolmeaa
open Go.RowKit
open Go
namespace B8
set_option maxRecDepth 20000 in
theorem slm (g o k m n c : Nat) (h : k + m ≤ c) (hm : 0 < m) (w : World) : (Instr.slice 40 (.slice (some ⟨g, o, none⟩) n c) (some (.int .i64 (k : Int))) (some (.int .i64 ((k : Int) + (m : Int)))) (some (.int .i64 ((k : Int) + (m : Int))))).run Try.prog w = .ok (.slice (some ⟨g, o + k, none⟩) m m) w := by
  rw [run_slice_lhm w 40 (some ⟨g, o, none⟩) n c Try.underlying40 .i64 .i64 .i64 (k : Int) ((k : Int) + (m : Int)) ((k : Int) + (m : Int)) (by omega) (by omega) (by omega) (by omega)]
  have e : (sizeOf (Try.prog.elem 40)).run Try.prog w = .ok 1 w := by kernel_rfl
  have e2 : ((k : Int) + (m : Int)).toNat - k = m := by omega
  have e3 : ¬ ((k : Int) + (m : Int)).toNat = k := by omega
  rw [e]
  simp [Result.andThen, sliced, e2, e3, addr_add]
set_option maxRecDepth 20000 in
set_option maxHeartbeats 400000 in
theorem cut_ (g o n c k m : Nat) (h : k + m ≤ c) (hm : 0 < m) (hc : k + m ≤ 1099511627776) (w : World) : Calls Try.prog 65 #[.slice (some ⟨g, o, none⟩) n c, .int .i64 (k : Int), .int .i64 (m : Int)] w fun e w' => e = .returned (.slice (some ⟨g, o + k, none⟩) m m) ∧ w' = w := by
  have hsl := slm g o k m n c h hm
  have h1 : (k : Int) + (m : Int) ≤ 1099511627776 := by omega
  clear h hm hc
  go_enter Try.func65, Try.ntmps65
  go_wp2
  exact bodyPost_ret (v := .slice (some ⟨g, o + k, none⟩) m m) (by simp [results, Try.results65, go_sem]) rfl ⟨rfl, rfl⟩
set_option maxRecDepth 20000 in
set_option maxHeartbeats 1000000 in
theorem lay_ (g o n c X : Nat) (f : Nat → Value) (w : World) (hr : w.rowIs g 5 n f) (ho : o + 8 ≤ n) : Calls Try.prog 64 #[.slice (some ⟨g, o, none⟩) 8 c, .float .f64 X] w fun e w' => e = .returned (.tuple #[]) ∧ w'.rowIs g 5 n (fun j => if o ≤ j ∧ j < o + 8 then .int .u8 ((by8 X).getD (j - o) 0) else f j) ∧ ∀ W : World, W.heap.size ≤ g → Kp W w → Kp W w' := by
  have hfb := Fq.fb64 X
  have h0 : (w.alloc (.cells #[.int .u8 0, .int .u8 0, .int .u8 0, .int .u8 0, .int .u8 0, .int .u8 0, .int .u8 0, .int .u8 0] 132)).rowIs w.heap.size 132 8 (fun j => .int .u8 (if j < 0 then (by8 X).getD j 0 else 0)) := World.rowIs_alloc w #[.int .u8 0, .int .u8 0, .int .u8 0, .int .u8 0, .int .u8 0, .int .u8 0, .int .u8 0, .int .u8 0] 132 _ (fun i hi => by
    match i, hi with
    | 0, _ | 1, _ | 2, _ | 3, _ | 4, _ | 5, _ | 6, _ | 7, _ => rfl)
  have hg0 : Kp w (w.alloc (.cells #[.int .u8 0, .int .u8 0, .int .u8 0, .int .u8 0, .int .u8 0, .int .u8 0, .int .u8 0, .int .u8 0] 132)) := (Kp.refl w).alloc _
  obtain ⟨G, hG⟩ : ∃ G, G = w.heap.size := ⟨_, rfl⟩
  rw [← hG] at h0
  have HG : Hid (G = w.heap.size) := hG
  have HR : Hid (w.rowIs g 5 n f ∧ o + 8 ≤ n) := ⟨hr, ho⟩
  clear hr ho
  go_enter Try.func64, Try.ntmps64
  go_wp2
  rw [← hG]
  clear hG
  go_loopw [9] (fun i wr => ∃ k : Nat, k ≤ 8 ∧ i = .int .i64 k ∧ Kp w wr ∧ wr.rowIs G 132 8 (fun j => .int .u8 (if j < k then (by8 X).getD j 0 else 0))) (fun i _ => 8 - (intOf i).toNat)
  case atStart => exact ⟨0, Nat.zero_le _, rfl, hg0, h0⟩
  case round =>
    obtain ⟨k, hk, rfl, hgr, hrow⟩ := hrel
    clear h0 hg0
    by_cases ck : k < 8
    · have e2 := hrow.cell ck
      have e3 := hrow.frozen k
      have hst := set_step hrow
      have hgs : Kp w (wr.setCell ⟨G, k, none⟩ (.int .u8 ((by8 X).getD k 0))) := hgr.setCell (by rw [HG.out]; exact Nat.le_refl _) _
      have hv := shr_bt X k
      rw [by8_getD X k ck] at hst hgs
      rw [if_neg (Nat.lt_irrefl k)] at e2
      rw [← hv] at hst hgs
      clear hv
      clear HR HG hk hrow hgr
      go_wp2
      exact ⟨⟨k + 1, by omega, by go_num, hgs, hst⟩, by simp [intOf]; omega⟩
    · have hk8 : k = 8 := by omega
      subst hk8
      obtain ⟨hr, ho⟩ := HR.out
      have ha : Arr wr (some ⟨G, 0, none⟩) (by8 X) := Or.inr ⟨G, 0, rfl, fun j hj => by
        rw [by8_len] at hj
        rw [Nat.zero_add, hrow.cell hj, if_pos hj]⟩
      obtain ⟨w2, hcp, hr2, hkw⟩ := copy8 wr g n o 8 8 c (some ⟨G, 0, none⟩) (by8 X) f (rowIs_grown hr hgr) ha (by8_len X) ho
      have hK : ∀ W : World, W.heap.size ≤ g → Kp W w → Kp W w2 := fun W h1 h2 => hkw W h1 (Kp.trans h2 hgr)
      clear HR HG hk hrow hgr ha hr ho hkw ck hfb
      go_wp2
      exact bodyPost_end (v := .tuple #[]) (by kernel_rfl) rfl ⟨rfl, hr2, hK⟩
end B8
end Go.Proofs.Ytipedmnipolmeaa
namespace Go.Proofs.Ytipedmnipolmeaa
open Go.RowKit
open Go
namespace B8
theorem getD_two (X Y j : Nat) : (by8 X ++ by8 Y).getD j 0 = if j < 8 then (by8 X).getD j 0 else (by8 Y).getD (j - 8) 0 := by
  by_cases c : j < 8
  · rw [if_pos c]; simp [List.getD, List.getElem?_append, by8_len, c]
  · rw [if_neg c]; simp [List.getD, List.getElem?_append, by8_len, c]
set_option maxRecDepth 20000 in
set_option maxHeartbeats 1000000 in
theorem put_ (a b L H : Nat) (hr : ∀ w : World, Calls Try.prog 59 #[.agg #[.float .f64 a, .float .f64 b]] w fun e w' => e = .returned (.agg #[.float .f64 L, .float .f64 H]) ∧ Kp w w') (w : World) : Calls Try.prog 49 #[.agg #[.float .f64 a, .float .f64 b]] w fun e w' => ∃ g, e = .returned (.slice (some ⟨g, 0, none⟩) 16 16) ∧ w.heap.size ≤ g ∧ Rw w' g 16 (by8 L ++ by8 H) ∧ Kp w w' := by
  have hmk : ∀ w : World, (Instr.makeSlice 40 (.int .i64 16) (.int .i64 16)).run Try.prog w = .ok (.slice (some ⟨w.heap.size, 0, none⟩) 16 16) (w.alloc (.cells (madeCells #[.int .u8 0] 16) 5)) := mk8 16 (by decide)
  go_enter Try.func49, Try.ntmps49
  go_upto_region 3 with (first | (go_at_call 59; refine (hr _).mono ?_; rintro e w1 ⟨rfl, g1⟩; have q0 := Fq.H2.keep (Fq.H2.new w (.float .f64 a) (.float .f64 b) 71) g1; have kw : Kp w w1 := Kp.trans ((Kp.refl w).alloc _) g1; obtain ⟨x0, x1, x2, x3⟩ := id q0))
  have qx := Fq.H2.put q0 (.float .f64 L) (.float .f64 H)
  have kv : Kp w ((w1.setCell ⟨w.heap.size, 0, none⟩ (.float .f64 L)).setCell ⟨w.heap.size, 1, none⟩ (.float .f64 H)) := (kw.setCell (Nat.le_refl _) _).setCell (Nat.le_refl _) _
  obtain ⟨W1, hW1⟩ : ∃ W1, W1 = (w1.setCell ⟨w.heap.size, 0, none⟩ (.float .f64 L)).setCell ⟨w.heap.size, 1, none⟩ (.float .f64 H) := ⟨_, rfl⟩
  have hsz : W1.heap.size = w1.heap.size := by rw [hW1]; simp
  rw [← hW1] at qx kv ⊢
  obtain ⟨z0, z1, -, -⟩ := id qx
  have hr0 := World.rowIs_made W1 (.int .u8 0) 16 5
  have hk0 : Kp W1 (W1.alloc (.cells (madeCells #[.int .u8 0] 16) 5)) := (Kp.refl W1).alloc _
  obtain ⟨G, hG⟩ : ∃ G, G = w1.heap.size := ⟨_, rfl⟩
  have hGe : W1.heap.size ≤ G := by omega
  rw [hsz, ← hG] at hr0
  rw [← hG]
  have hwG : w.heap.size ≤ G := Nat.le_trans (Below.size kv) hGe
  generalize W1.alloc (.cells (madeCells #[.int .u8 0] 16) 5) = W2 at hr0 hk0 ⊢
  obtain ⟨B, hB⟩ : ∃ B, B = w.heap.size := ⟨_, rfl⟩
  rw [← hB] at z0 z1 ⊢
  have HWB : Hid (w.heap.size ≤ G) := hwG
  have HC1 : ∀ w : World, Calls Try.prog 65 #[.slice (some ⟨G, 0, none⟩) 16 16, .int .i64 0, .int .i64 8] w fun e w' => e = .returned (.slice (some ⟨G, 0, none⟩) 8 8) ∧ w' = w := cut_ G 0 16 16 0 8 (by decide) (by decide) (by decide)
  have HC2 : ∀ w : World, Calls Try.prog 65 #[.slice (some ⟨G, 0, none⟩) 16 16, .int .i64 8, .int .i64 8] w fun e w' => e = .returned (.slice (some ⟨G, 8, none⟩) 8 8) ∧ w' = w := by
    have := cut_ G 0 16 16 8 8 (by decide) (by decide) (by decide)
    rw [Nat.zero_add] at this
    exact this
  have HL1 := lay_ G 0 16 8 L
  have HL2 := lay_ G 8 16 8 H
  clear hW1 hsz hG x0 x1 x2 x3 q0 g1 kw hwG hB hr hmk qx
  go_region_held3 (fun w' => w'.cell? ⟨B, 0, none⟩ = some (.float .f64 L) ∧ w'.cell? ⟨B, 1, none⟩ = some (.float .f64 H)) (refine ⟨kkeep (W := W1) ?_ z0, kkeep (W := W1) ?_ z1⟩ <;> ((repeat (first | with_reducible exact ka2 | with_reducible exact ka1 | with_reducible exact hk0 | with_reducible exact Kp.refl _ | with_reducible refine Kp.drew ?_)); done)) (first | (go_at_call 64; refine (HL1 ?ff1 _ ?qa1 ?qb1).mono ?_; (case qa1 => exact hr0); (case qb1 => decide); rintro e v1 ⟨rfl, hr1, hk1⟩; have ka1 : Kp W1 v1 := hk1 W1 hGe ?q3; (case q3 => ((repeat (first | with_reducible exact ka2 | with_reducible exact ka1 | with_reducible exact hk0 | with_reducible exact Kp.refl _ | with_reducible refine Kp.drew ?_)); done))) | (go_at_call 65; refine (HC1 _).mono ?_; rintro e w' ⟨rfl, rfl⟩))
  clear HC1 HL1
  go_upto_region 4 with fail
  go_region_held3 (fun w' => w'.cell? ⟨B, 0, none⟩ = some (.float .f64 L) ∧ w'.cell? ⟨B, 1, none⟩ = some (.float .f64 H)) (refine ⟨kkeep (W := W1) ?_ z0, kkeep (W := W1) ?_ z1⟩ <;> ((repeat (first | with_reducible exact ka2 | with_reducible exact ka1 | with_reducible exact hk0 | with_reducible exact Kp.refl _ | with_reducible refine Kp.drew ?_)); done)) (first | (go_at_call 64; refine (HL2 ?ff2 _ ?qa2 ?qb2).mono ?_; (case qa2 => exact hr1); (case qb2 => decide); rintro e v2 ⟨rfl, hr2, hk2⟩; have ka2 : Kp W1 v2 := hk2 W1 hGe ?q3; (case q3 => ((repeat (first | with_reducible exact ka2 | with_reducible exact ka1 | with_reducible exact hk0 | with_reducible exact Kp.refl _ | with_reducible refine Kp.drew ?_)); done))) | (go_at_call 65; refine (HC2 _).mono ?_; rintro e w' ⟨rfl, rfl⟩))
  have hR : Rw v2 G 16 (by8 L ++ by8 H) := World.rowIs.congr hr2 (fun j hj => by
    rw [getD_two]
    by_cases c : j < 8
    · rw [if_neg (by omega), if_pos ⟨Nat.zero_le _, by omega⟩, if_pos c]; rfl
    · rw [if_pos ⟨by omega, by omega⟩, if_neg c])
  have hK : Kp w v2 := Kp.trans kv ka2
  clear hr1 hr2 ka1 ka2 hk1 hk2 hr0 hk0 HC2 HL2 z0 z1
  go_wp2
  have hle := HWB.out
  exact bodyPost_ret (v := .slice (some ⟨G, 0, none⟩) 16 16) (by simp [results, Try.results49, go_sem]) rfl ⟨G, rfl, hle, hR, hK⟩
end B8
end Go.Proofs.Ytipedmnipolmeaa
namespace Go.Proofs.Ytipedmnipolmeaa
open Go.RowKit
open Go
namespace X7
set_option linter.unusedVariables false
open B8
theorem allV_at9 {ps : List (Nat × Nat)} (h : allV ps = true) {k : Nat} (hk : k < ps.length) : Fq.vld (ps.getD k (0, 0)).1 (ps.getD k (0, 0)).2 = true := by
  cases c : Fq.vld (ps.getD k (0, 0)).1 (ps.getD k (0, 0)).2 with
  | true => rfl
  | false => rw [allV_false hk c] at h; cases h
theorem vld_read {a b : Nat} (h : Fq.vld a b = true) : Fq.rlo a b = a ∧ Fq.rhi a b = b := by
  unfold Fq.vld at h
  rw [Bool.or_eq_true] at h
  rcases h with h | h
  · obtain ⟨rfl, rfl⟩ := of_decide_eq_true h
    decide
  · rw [Bool.and_eq_true, Bool.and_eq_true] at h
    obtain ⟨h1, h2, h3⟩ := h
    have h2 : ¬ a = 9223372036854775808 := by simpa using h2
    have h3 : ¬ b = 9223372036854775808 := by simpa using h3
    simp [Fq.rlo, Fq.rhi, h1, Fq.pla, h2, h3]
/-- a line's numbers are two bytes each -/
def S5 (x : I5) : Prop := (-32768 ≤ x.2.1 ∧ x.2.1 ≤ 65535) ∧ (-32768 ≤ x.2.2.1 ∧ x.2.2.1 ≤ 65535) ∧ (-32768 ≤ x.2.2.2.1 ∧ x.2.2.2.1 ≤ 65535) ∧ (-32768 ≤ x.2.2.2.2 ∧ x.2.2.2.2 ≤ 65535)
theorem good_s5 {V : Int} {c : Nat} {L : List I5} {i : Nat} (hV : 0 ≤ V ∧ V ≤ 32) (hi : i < 1024) (hc : c ≤ 256) (h : lnAt V c L i = 0) : S5 (L.getD i D5) := by
  obtain ⟨h1, h2, h3, h4, h5⟩ := lnE_zero h
  generalize L.getD i D5 = x at *
  have key : ∀ (k y : Int), opOk (V + i - 1) (opN x.1) k y = true → (-32768 ≤ y ∧ y ≤ 65535) := fun k y hk => by
    unfold opOk at hk
    split at hk
    · have := of_decide_eq_true hk; omega
    · have := of_decide_eq_true hk; omega
  refine ⟨key _ _ h2, key _ _ h3, key _ _ h4, ?_⟩
  have a1 : nbLo x.1 = -1024 ∨ nbLo x.1 = 0 := by unfold nbLo; split; exact Or.inl rfl; exact Or.inr rfl
  have a2 : nbHi x.1 c ≤ 1024 := by unfold nbHi; split; omega; split <;> omega
  omega
theorem enc_len (V : Int) (ps : List (Nat × Nat)) (L : List I5) (hN : ps.length ≤ 256) (hM : L.length ≤ 1024) : (enc V ps L).length ≤ 20000 := by
  unfold enc
  have h1 := flatMap_len cB 16 (fun x => by unfold cB; rw [List.length_append, by8_len, by8_len]; decide) ps
  have h2 := flatMap_len lnB 9 lnB_len L
  simp only [List.length_append, wd_len, List.length_cons, List.length_nil]
  omega
set_option maxRecDepth 20000 in
set_option maxHeartbeats 8000000 in
theorem laid_ (V : Int) (pc pk : Option Addr) (cc ck : Nat) (ps : List (Nat × Nat)) (L : List I5) (hV : 0 ≤ V ∧ V ≤ 32) (hN2 : ps.length ≤ 256) (hal : allV ps = true) (hM2 : L.length ≤ 1024) (hln : ∀ i, i < L.length → S5 (L.getD i D5)) (w : World) (hx : AG FLV w pc ps) (hy : AI w pk L) (hw : Wq ps) :
    Calls Try.prog 29 #[.agg #[.int .i64 V, .slice pc ps.length cc, .slice pk L.length ck]] w fun e w' => ∃ v, e = .returned v ∧ Own w' w.heap.size v (enc V ps L) ∧ Kp w w' := by
  obtain ⟨i0, hi0, hi1, hi2, hi3⟩ := inf8p
  obtain ⟨N, hN⟩ : ∃ N, N = ps.length := ⟨_, rfl⟩
  obtain ⟨M, hM⟩ : ∃ M, M = L.length := ⟨_, rfl⟩
  rw [← hN] at hN2 ⊢
  rw [← hM] at hM2 ⊢
  have HX : Hid (AG FLV w pc ps ∧ AI w pk L ∧ Wq ps ∧ N = ps.length ∧ M = L.length ∧ allV ps = true ∧ ∀ i, i < L.length → S5 (L.getD i D5)) := ⟨hx, hy, hw, hN, hM, hal, hln⟩
  have hcv : (convert 40 40 (.slice (some ⟨w.heap.size + 1, 0, none⟩) 3 3)).run Try.prog ((w.alloc (.cells #[.int .i64 V, .slice pc N cc, .slice pk M ck] 32)).alloc (.cells #[.int .u8 86, .int .u8 71, .int .u8 1] 5)) = .ok (.slice (some ⟨w.heap.size + 1, 0, none⟩) 3 3) ((w.alloc (.cells #[.int .i64 V, .slice pc N cc, .slice pk M ck] 32)).alloc (.cells #[.int .u8 86, .int .u8 71, .int .u8 1] 5 (3, 4))) := by
    have h := Lib.run_convert_bytes_const (P := Try.prog) (w.alloc (.cells #[.int .i64 V, .slice pc N cc, .slice pk M ck] 32)) 40 5 #[.int .u8 86, .int .u8 71, .int .u8 1] 3 3 Try.underlying40 Try.underlying5
    simpa using h
  have kA : Kp w (w.alloc (.cells #[.int .i64 V, .slice pc N cc, .slice pk M ck] 32)) := (Kp.refl w).alloc _
  have kB : Kp (w.alloc (.cells #[.int .i64 V, .slice pc N cc, .slice pk M ck] 32)) ((w.alloc (.cells #[.int .i64 V, .slice pc N cc, .slice pk M ck] 32)).alloc (.cells #[.int .u8 86, .int .u8 71, .int .u8 1] 5 (3, 4))) := (Kp.refl _).alloc _
  have kC : Kp ((w.alloc (.cells #[.int .i64 V, .slice pc N cc, .slice pk M ck] 32)).alloc (.cells #[.int .u8 86, .int .u8 71, .int .u8 1] 5 (3, 4))) (((w.alloc (.cells #[.int .i64 V, .slice pc N cc, .slice pk M ck] 32)).alloc (.cells #[.int .u8 86, .int .u8 71, .int .u8 1] 5 (3, 4))).alloc (.cells #[.int .u8 (V % 256)] 5)) := (Kp.refl _).alloc _
  have z0 : (w.alloc (.cells #[.int .i64 V, .slice pc N cc, .slice pk M ck] 32)).cell? ⟨w.heap.size, 0, none⟩ = some (.int .i64 V) := by simp [go_sem]
  have z1 : (w.alloc (.cells #[.int .i64 V, .slice pc N cc, .slice pk M ck] 32)).cell? ⟨w.heap.size, 1, none⟩ = some (.slice pc N cc) := by simp [go_sem]
  have z2 : (w.alloc (.cells #[.int .i64 V, .slice pc N cc, .slice pk M ck] 32)).cell? ⟨w.heap.size, 2, none⟩ = some (.slice pk M ck) := by simp [go_sem]
  have z0' := kkeep kB z0
  have z1' := kkeep kC (kkeep kB z1)
  have z2' := kkeep kC (kkeep kB z2)
  have hho : ∀ j u, (([86, 71, 1] : List Int).map (Value.int .u8))[j]? = some u → (((w.alloc (.cells #[.int .i64 V, .slice pc N cc, .slice pk M ck] 32)).alloc (.cells #[.int .u8 86, .int .u8 71, .int .u8 1] 5 (3, 4))).alloc (.cells #[.int .u8 (V % 256)] 5)).cell? ((⟨w.heap.size + 1, 0, none⟩ : Addr).add j) = some u := fun j u hu => by
    refine kkeepA kC ?_
    have hrow : ((w.alloc (.cells #[.int .i64 V, .slice pc N cc, .slice pk M ck] 32)).alloc (.cells #[.int .u8 86, .int .u8 71, .int .u8 1] 5 (3, 4))).heap[w.heap.size + 1]? = some (.cells #[.int .u8 86, .int .u8 71, .int .u8 1] 5 (3, 4)) := by
      have h := heap_alloc_new (w.alloc (.cells #[.int .i64 V, .slice pc N cc, .slice pk M ck] 32)) (.cells #[.int .u8 86, .int .u8 71, .int .u8 1] 5 (3, 4))
      simpa using h
    rw [B8.addr_add, cell_of_row _ _ _ _ _ _ hrow]
    simpa using hu
  have hnw : ∀ i u, ([V % 256].map (Value.int .u8))[i]? = some u → (((w.alloc (.cells #[.int .i64 V, .slice pc N cc, .slice pk M ck] 32)).alloc (.cells #[.int .u8 86, .int .u8 71, .int .u8 1] 5 (3, 4))).alloc (.cells #[.int .u8 (V % 256)] 5)).cell? ((⟨w.heap.size + 2, 0, none⟩ : Addr).add i) = some u := fun i u hu => by
    have h := cell_one_new ((w.alloc (.cells #[.int .i64 V, .slice pc N cc, .slice pk M ck] 32)).alloc (.cells #[.int .u8 86, .int .u8 71, .int .u8 1] 5 (3, 4))) (.int .u8 (V % 256)) 5 i u hu
    simpa using h
  clear hx hy hw hN hM hal hln hV
  go_enter Try.func29, Try.ntmps29
  go_upto_region 2 with (first | (at_builtin; refine wpList_append_grows _ rfl _ _ 40 rfl 5 i0 (.int .u8 0) 1 1 Try.underlying40 hi0 hi1 hi2 hi3 rfl (by decide) (some ⟨w.heap.size + 1, 0, none⟩) 3 3 (([86, 71, 1] : List Int).map (Value.int .u8)) rfl (fun h => by cases h) rfl (fun b hb => by cases hb; exact hho) ⟨w.heap.size + 2, 0, none⟩ 1 1 ([V % 256].map (Value.int .u8)) rfl rfl hnw (one_u8 _) (by decide) (by unfold maxLen; decide) (by decide) ?_))
  intro v1 w1 hown2 hgrow
  have hO : Own w1 (w.heap.size + 1) v1 ([86, 71, 1] ++ [V % 256]) := Own.mono (own_app (m := 1) rfl hown2) (by simp)
  have k1 : Kp w w1 := ((kA.trans kB).trans kC).grown hgrow (fun k hk => by cases hk)
  have kg : Kp (((w.alloc (.cells #[.int .i64 V, .slice pc N cc, .slice pk M ck] 32)).alloc (.cells #[.int .u8 86, .int .u8 71, .int .u8 1] 5 (3, 4))).alloc (.cells #[.int .u8 (V % 256)] 5)) w1 := Kp.grown (Kp.refl _) hgrow (fun k hk => by cases hk)
  replace z1 := kkeep kg z1'
  replace z2 := kkeep kg z2'
  have hs1 : w.heap.size + 1 ≤ w1.heap.size := Nat.le_trans (by simp) kg.size
  have hlw := layWord_ (w.heap.size + 1) v1 ([86, 71, 1] ++ [V % 256]) (N : Int) (by omega) w1 hO hs1 (by simp)
  have hob := own_block hO
  clear hown2 hgrow kA kB kC kg z0 z0' z1' z2' hho hnw hcv hO
  go_upto_region 2 with fail
  go_upto_region 3 with (first | (go_at_call 48; refine hlw.mono ?_; rintro e w2 ⟨v2, rfl, o2, g2⟩))
  have hne1 : v1.ownBlock ≠ some w.heap.size := fun e => by have := hob _ e; omega
  replace z1 := g2.cell hne1 z1
  replace z2 := g2.cell hne1 z2
  have k2 : Kp w w2 := g2.kp0 k1 (fun g hg => by have := hob g hg; omega)
  have hs2 : w.heap.size + 1 ≤ w2.heap.size := Nat.le_trans hs1 g2.size
  clear g2 hne1 hob hlw k1 hs1
  obtain ⟨PR, hPR⟩ : ∃ PR, PR = [86, 71, 1] ++ [V % 256] ++ wd (N : Int) := ⟨_, rfl⟩
  have hPl : PR.length = 6 := by rw [hPR]; rfl
  rw [← hPR] at o2
  have HP : Hid (PR = [86, 71, 1] ++ [V % 256] ++ wd (N : Int)) := hPR
  have HB : Hid (∃ B0, B0 = w.heap.size) := ⟨_, rfl⟩
  have HS : Hid (Own w2 (w.heap.size + 1) v2 (PR ++ (ps.take 0).flatMap cB) ∧ w2.cell? ⟨w.heap.size, 2, none⟩ = some (.slice pk M ck) ∧ Kp w w2 ∧ w.heap.size + 1 ≤ w2.heap.size) := ⟨by simpa using o2, z2, k2, hs2⟩
  clear hPR o2 k2 hs2 HB z2
  go_wp2
  clear z1
  go_loopw [3, 5, 23] (fun s3 s5 s23 wr => ∃ (j : Nat) (v9 : Value), s23 = .int .i64 j ∧ j ≤ N ∧ v9 = s3 ∧ Own wr (w.heap.size + 1) v9 (PR ++ (ps.take j).flatMap cB) ∧ wr.cell? ⟨w.heap.size, 2, none⟩ = some (.slice pk M ck) ∧ Kp w wr ∧ w.heap.size + 1 ≤ wr.heap.size) (fun _ _ s23 _ => N - (intOf s23).toNat)
  case atStart => exact ⟨0, v2, rfl, Nat.zero_le _, rfl, HS.out⟩
  case round =>
    clear HS
    obtain ⟨j, v9, rfl, hj, rfl, hO, z2, kp, hs⟩ := hrel
    obtain ⟨hx, hy, hw, hN, hM, hal, hln⟩ := HX.out
    have hob := own_block hO
    have hne : v9.ownBlock ≠ some w.heap.size := fun e => by have := hob _ e; omega
    have hlenj : (PR ++ (ps.take j).flatMap cB).length ≤ 5000 := by
      have h1 := flatMap_len cB 16 (fun x => by unfold cB; rw [List.length_append, by8_len, by8_len]; decide) (ps.take j)
      rw [List.length_take] at h1
      rw [List.length_append, hPl]; omega
    by_cases cj : j < N
    · have HJ : Hid (j < N) := cj
      obtain ⟨b, off, rfl, hc2⟩ := hx.at (k := j) (by omega)
      have hfm := flatMap_take cB ps (0, 0) j (by omega)
      obtain ⟨f1, f2⟩ := hc2 j (by omega)
      have hv := allV_at9 hal (k := j) (by omega)
      have hwj := hw j
      obtain ⟨Y, hY⟩ : ∃ Y, Y = ps.getD j (0, 0) := ⟨_, rfl⟩
      rw [← hY] at f1 f2 hv hwj hfm
      obtain ⟨Y1, Y2⟩ := Y
      simp only at f1 f2 hv hwj
      replace f1 : wr.cell? ⟨b, off + j * 2, none⟩ = some (.float .f64 Y1) := kkeep kp f1
      replace f2 : wr.cell? ⟨b, off + j * 2 + 1, none⟩ = some (.float .f64 Y2) := kkeep kp f2
      have hrd := Fq.read_ Y1 Y2 hwj.1 hwj.2
      rw [(vld_read hv).1, (vld_read hv).2] at hrd
      have hpu := put_ Y1 Y2 Y1 Y2 hrd
      have HF : Hid ((ps.take (j + 1)).flatMap cB = (ps.take j).flatMap cB ++ (by8 Y1 ++ by8 Y2)) := hfm
      have kX : Kp wr (wr.alloc (.cells #[.float .f64 Y1, .float .f64 Y2] 71)) := (Kp.refl wr).alloc _
      obtain ⟨ZS, hZS⟩ : ∃ ZS, ZS = PR ++ (ps.take j).flatMap cB := ⟨_, rfl⟩
      rw [← hZS] at hO hlenj
      have HZ : Hid (ZS = PR ++ (ps.take j).flatMap cB) := hZS
      have q0 : (wr.alloc (.cells #[.float .f64 Y1, .float .f64 Y2] 71)).cell? ⟨wr.heap.size, 0, none⟩ = some (.float .f64 Y1) := by simp [go_sem]
      have q1 : (wr.alloc (.cells #[.float .f64 Y1, .float .f64 Y2] 71)).cell? ⟨wr.heap.size, 1, none⟩ = some (.float .f64 Y2) := by simp [go_sem]
      clear hrd hv hwj hY hc2 hx hy hw hN hM hal hln hfm hZS HX
      go_upto_region 6 with fail
      generalize (wr.alloc (.cells #[.float .f64 Y1, .float .f64 Y2] 71)) = W6 at kX q0 q1 ⊢
      have hl16 : (by8 Y1 ++ by8 Y2).length = 16 := by rw [List.length_append, by8_len, by8_len]
      go_wp2_with (first | (go_at_call 49; refine (hpu _).mono ?_; rintro e w7 ⟨g, rfl, hg, hrw, g7⟩; have hO7 : w7.ownsRow (w.heap.size + 1) 5 1 v9 ZS.length (ZS.map (Value.int .u8)) := hO.kp (kX.trans g7); have a7 := hrw.arr 16 (Nat.le_refl _) (by rw [hl16]; exact Nat.le_refl _); rw [List.take_of_length_le (by rw [hl16]; exact Nat.le_refl _)] at a7; obtain ⟨b7, o7, e7, c7⟩ := a7.at (k := 0) (by rw [hl16]; decide); simp only [Option.some.injEq, Addr.mk.injEq, and_true] at e7; obtain ⟨rfl, rfl⟩ := e7; have hnw7 := arr_news c7; have hs7 := Nat.le_trans hs (Nat.le_trans kX.size g7.size); clear a7 c7) | (at_builtin; refine wpList_append_own_at _ rfl _ _ 40 rfl (w.heap.size + 1) 5 i0 (.int .u8 0) 1 1 Try.underlying40 hi0 hi1 hi2 hi3 rfl (by decide) _ _ _ rfl hO7 ⟨g, 0, none⟩ 16 16 ((by8 Y1 ++ by8 Y2).map (Value.int .u8)) rfl ?zl hnw7 (one_u8 _) ?zm ?zb ?zs ?_))
      case zl => rw [List.length_map, hl16]
      case zm => unfold maxLen; omega
      case zb => omega
      case zs => exact hs7
      intro v' w8 hown2 hgrow _ hat
      have hO8 : Own w8 (w.heap.size + 1) v' (PR ++ (ps.take (j + 1)).flatMap cB) := by
        rw [HF.out, ← List.append_assoc, ← HZ.out]
        exact own_app hl16 hown2
      have hG : Gr wr w8 v9 v' := (Gr.kp (kX.trans g7) v9).trans ⟨hgrow, hat.imp id (fun e => ⟨_, e, Nat.le_refl _⟩)⟩
      have z28 := hG.cell hne z2
      have kp8 : Kp w w8 := hG.kp0 kp (fun g hg => by have := hob g hg; omega)
      have hs8 : w.heap.size + 1 ≤ w8.heap.size := Nat.le_trans hs hG.size
      clear hown2 hgrow hat hG hO7 hnw7 hrw hO hob hne z2 kp hs kX g7 q0 q1 hs7 hpu f1 f2 HF HZ hl16 hg hlenj
      go_wp2
      have hJ : j < N := HJ.out
      exact ⟨⟨j + 1, v', by go_num, hJ, rfl, hO8, z28, kp8, hs8⟩, by simp [intOf]; omega⟩
    · have hjN : j = N := by omega
      rw [show ps.take j = ps from List.take_of_length_le (by omega)] at hO hlenj
      obtain ⟨P2, hP2⟩ : ∃ P2, P2 = PR ++ ps.flatMap cB := ⟨_, rfl⟩
      rw [← hP2] at hO hlenj
      have HP2 : Hid (P2 = PR ++ ps.flatMap cB ∧ P2.length ≤ 5000) := ⟨hP2, hlenj⟩
      have hlw := layWord_ (w.heap.size + 1) v9 P2 (M : Int) (by omega) wr hO hs (by omega)
      clear hx hy hw hN hM hal hln hP2 hlenj
      go_upto_region 9 with (first | (go_at_call 48; refine hlw.mono ?_; rintro e w3 ⟨v3, rfl, o3, g3⟩))
      replace z2 := g3.cell hne z2
      replace kp := g3.kp0 kp (fun g hg => by have := hob g hg; omega)
      replace hs : w.heap.size + 1 ≤ w3.heap.size := Nat.le_trans hs g3.size
      clear g3 hlw hob hne hO hjN cj hj
      have HS : Hid (Own w3 (w.heap.size + 1) v3 (P2 ++ wd (M : Int) ++ (L.take 0).flatMap lnB) ∧ Kp w w3 ∧ w.heap.size + 1 ≤ w3.heap.size) := ⟨by simpa using o3, kp, hs⟩
      clear o3 kp hs
      go_wp2
      clear z2
      go_loopw [3, 7, 40] (fun s3 s7 s40 wr => ∃ (j : Nat) (v9 : Value), s40 = .int .i64 j ∧ j ≤ M ∧ v9 = s3 ∧ Own wr (w.heap.size + 1) v9 (P2 ++ wd (M : Int) ++ (L.take j).flatMap lnB) ∧ Kp w wr ∧ w.heap.size + 1 ≤ wr.heap.size) (fun _ _ s40 _ => M - (intOf s40).toNat)
      case atStart => exact ⟨0, v3, rfl, Nat.zero_le _, rfl, HS.out⟩
      case round =>
        clear HS
        obtain ⟨j, v9, rfl, hj, rfl, hO, kp, hs⟩ := hrel
        obtain ⟨hx, hy, hw, hN, hM, hal, hln⟩ := HX.out
        have hob := own_block hO
        have hlenj : (P2 ++ wd (M : Int) ++ (L.take j).flatMap lnB).length ≤ 20000 := by
          have h1 := flatMap_len lnB 9 lnB_len (L.take j)
          rw [List.length_take] at h1
          have h2 := HP2.out.2
          rw [List.length_append, List.length_append, wd_len]; omega
        by_cases cj : j < M
        · have HJ : Hid (j < M) := cj
          obtain ⟨b, off, rfl, hc5⟩ := hy.at (k := j) (by omega)
          obtain ⟨e0, e1, e2, e3, e4⟩ := hc5 j (by omega)
          have hfm := flatMap_take lnB L D5 j (by omega)
          have hs5 := hln j (by omega)
          obtain ⟨X, hX⟩ : ∃ X, X = L.getD j D5 := ⟨_, rfl⟩
          rw [← hX] at e0 e1 e2 e3 e4 hfm hs5
          obtain ⟨x0, x1, x2, x3, x4⟩ := X
          simp only at e0 e1 e2 e3 e4
          replace e0 := kkeep kp e0
          replace e1 := kkeep kp e1
          replace e2 := kkeep kp e2
          replace e3 := kkeep kp e3
          replace e4 := kkeep kp e4
          have kX : Kp wr (wr.alloc (.cells #[.int .i64 x0, .int .i64 x1, .int .i64 x2, .int .i64 x3, .int .i64 x4] 62)) := (Kp.refl wr).alloc _
          have hll := layLine_ (w.heap.size + 1) v9 (P2 ++ wd (M : Int) ++ (L.take j).flatMap lnB) x0 x1 x2 x3 x4 hs5 (wr.alloc (.cells #[.int .i64 x0, .int .i64 x1, .int .i64 x2, .int .i64 x3, .int .i64 x4] 62)) (hO.kp kX) (Nat.le_trans hs kX.size) (by omega)
          have HF : Hid ((L.take (j + 1)).flatMap lnB = (L.take j).flatMap lnB ++ lnB (x0, x1, x2, x3, x4)) := hfm
          clear hx hy hw hN hM hal hln hc5 hX hfm hs5 hlenj HX
          go_wp2_with (first | (go_at_call 50; refine hll.mono ?_; rintro e w5 ⟨v5, rfl, o5, g5⟩))
          have hG : Gr wr w5 v9 v5 := (Gr.kp kX v9).trans g5
          have hJ : j < M := HJ.out
          exact ⟨⟨j + 1, v5, by go_num, hJ, rfl, by rw [HF.out, ← List.append_assoc]; exact o5, hG.kp0 kp (fun g hg => by have := hob g hg; omega), Nat.le_trans hs hG.size⟩, by simp [intOf]; omega⟩
        · rw [show L.take j = L from List.take_of_length_le (by omega)] at hO
          have hE : P2 ++ wd (M : Int) ++ L.flatMap lnB = enc V ps L := by
            rw [HP2.out.1, HP.out, hN, hM]
            unfold enc
            simp [List.append_assoc]
          rw [hE] at hO
          have hO2 := hO.mono (Nat.le_succ w.heap.size)
          clear hx hy hw hN hM hal hln hlenj HX hE hO hob
          go_wp2
          exact bodyPost_ret (v := v9) (by simp [results, Try.results29, go_sem]) rfl ⟨_, rfl, hO2, kp⟩
end X7
end Go.Proofs.Ytipedmnipolmeaa
namespace Go.Proofs.Ytipedmnipolmeaa
open Go.RowKit
open Go
namespace X7
set_option linter.unusedVariables false
open B8
set_option maxRecDepth 20000 in
set_option maxHeartbeats 2000000 in
theorem pencodeE_ (V : Int) (pc pk : Option Addr) (cc ck : Nat) (ps : List (Nat × Nat)) (L : List I5) (he : (chk V ps L).2 ≠ 0) (w : World) (hx : AG FLV w pc ps) (hy : AI w pk L) (hw : Wq ps) (lx : ps.length ≤ 1048576) (ly : L.length ≤ 1048576) :
    Calls Try.prog 10 #[.agg #[.int .i64 V, .slice pc ps.length cc, .slice pk L.length ck]] w fun e w' => e = .returned (.tuple #[.slice none 0 0, .int .i64 (chk V ps L).2]) ∧ Kp w w' := by
  obtain ⟨R, hR⟩ : ∃ R, R = chk V ps L := ⟨_, rfl⟩
  have hch := fun (W : World) (g : Kp w W) => pcheck_ V pc pk cc ck ps L W (hx.grown g) (hy.grown g) hw lx ly
  rw [← hR] at hch
  rw [← hR] at he ⊢
  generalize ps.length = N at hch ⊢
  generalize L.length = M at hch ⊢
  have z0 : (w.alloc (.cells #[.int .i64 V, .slice pc N cc, .slice pk M ck] 32)).cell? ⟨w.heap.size, 0, none⟩ = some (.int .i64 V) := by simp [go_sem]
  have z1 : (w.alloc (.cells #[.int .i64 V, .slice pc N cc, .slice pk M ck] 32)).cell? ⟨w.heap.size, 1, none⟩ = some (.slice pc N cc) := by simp [go_sem]
  have z2 : (w.alloc (.cells #[.int .i64 V, .slice pc N cc, .slice pk M ck] 32)).cell? ⟨w.heap.size, 2, none⟩ = some (.slice pk M ck) := by simp [go_sem]
  have kw : Kp w (w.alloc (.cells #[.int .i64 V, .slice pc N cc, .slice pk M ck] 32)) := (Kp.refl w).alloc _
  obtain ⟨n, e⟩ := R
  simp only at hch he ⊢
  have dE : (e == 0) = false := beq_eq_false_iff_ne.2 he
  have dE' : (e != 0) = true := by simpa using he
  clear he hR hx hy hw lx ly
  go_enter Try.func10, Try.ntmps10
  go_wp2_with (first | (go_at_call 6; refine (hch _ kw).mono ?_; rintro e1 w1 ⟨rfl, g1⟩; have k1 := kw.trans g1; replace z0 := kkeep g1 z0; replace z1 := kkeep g1 z1; replace z2 := kkeep g1 z2))
  exact bodyPost_ret (v := .tuple #[.slice none 0 0, .int .i64 e]) (by simp [results, Try.results10, go_sem]) rfl ⟨rfl, k1⟩
set_option maxRecDepth 20000 in
set_option maxHeartbeats 2000000 in
theorem pencodeO_ (V : Int) (pc pk : Option Addr) (cc ck : Nat) (ps : List (Nat × Nat)) (L : List I5) (he : (chk V ps L).2 = 0) (w : World) (hx : AG FLV w pc ps) (hy : AI w pk L) (hw : Wq ps) (lx : ps.length ≤ 1048576) (ly : L.length ≤ 1048576) :
    Calls Try.prog 10 #[.agg #[.int .i64 V, .slice pc ps.length cc, .slice pk L.length ck]] w fun e w' => ∃ v, e = .returned (.tuple #[v, .int .i64 0]) ∧ Own w' w.heap.size v (enc V ps L) ∧ Kp w w' := by
  obtain ⟨R, hR⟩ : ∃ R, R = chk V ps L := ⟨_, rfl⟩
  have hch := fun (W : World) (g : Kp w W) => pcheck_ V pc pk cc ck ps L W (hx.grown g) (hy.grown g) hw lx ly
  rw [← hR] at hch
  obtain ⟨hV, ⟨hN2, hal⟩, hM2, hln⟩ := chk_good he
  have hla := fun (W : World) (g : Kp w W) => laid_ V pc pk cc ck ps L hV hN2 hal hM2.2 (fun i hi => good_s5 hV (by omega) hN2 (hln i hi)) W (hx.grown g) (hy.grown g) hw
  rw [← hR] at he
  generalize ps.length = N at hch hla ⊢
  generalize L.length = M at hch hla ⊢
  have z0 : (w.alloc (.cells #[.int .i64 V, .slice pc N cc, .slice pk M ck] 32)).cell? ⟨w.heap.size, 0, none⟩ = some (.int .i64 V) := by simp [go_sem]
  have z1 : (w.alloc (.cells #[.int .i64 V, .slice pc N cc, .slice pk M ck] 32)).cell? ⟨w.heap.size, 1, none⟩ = some (.slice pc N cc) := by simp [go_sem]
  have z2 : (w.alloc (.cells #[.int .i64 V, .slice pc N cc, .slice pk M ck] 32)).cell? ⟨w.heap.size, 2, none⟩ = some (.slice pk M ck) := by simp [go_sem]
  have kw : Kp w (w.alloc (.cells #[.int .i64 V, .slice pc N cc, .slice pk M ck] 32)) := (Kp.refl w).alloc _
  obtain ⟨n, e⟩ := R
  simp only at hch he
  subst he
  clear hR hx hy hw lx ly hV hN2 hal hM2 hln
  go_enter Try.func10, Try.ntmps10
  go_wp2_with (first | (go_at_call 6; refine (hch _ kw).mono ?_; rintro e1 w1 ⟨rfl, g1⟩; have k1 := kw.trans g1; replace z0 := kkeep g1 z0; replace z1 := kkeep g1 z1; replace z2 := kkeep g1 z2) | (go_at_call 29; refine (hla _ k1).mono ?_; rintro e2 w2 ⟨v2, rfl, o2, g2⟩))
  exact bodyPost_ret (v := .tuple #[v2, .int .i64 0]) (by simp [results, Try.results10, go_sem]) rfl ⟨_, rfl, o2.mono k1.size, k1.trans g2⟩
end X7
end Go.Proofs.Ytipedmnipolmeaa
namespace Go.Proofs.Ytipedmnipolmeaa
open Go.RowKit
open Go
namespace X7
set_option linter.unusedVariables false
open B8
theorem u64_and255 (n : Nat) (hn : n < 18446744073709551616) : bits .and .u64 (n : Int) 255 = (n : Int) % 256 := by
  have h := u64_and_nat n 255 hn (by decide)
  rw [show ((255 : Nat) : Int) = 255 from rfl] at h
  rw [h, show n &&& 255 = n % 256 from Nat.and_two_pow_sub_one_eq_mod n 8]
  simp
set_option maxRecDepth 20000 in
set_option maxHeartbeats 1000000 in
theorem eight_ (X : Nat) (hX : X < 18446744073709551616) (w : World) :
    Calls Try.prog 51 #[.int .u64 (X : Int)] w fun e w' => ∃ v, e = .returned v ∧ Own w' w.heap.size v (by8 X) ∧ Kp w w' := by
  obtain ⟨i0, hi0, hi1, hi2, hi3⟩ := inf8p
  go_enter Try.func51, Try.ntmps51
  go_wp2
  go_loopw [3, 4] (fun s3 s4 wr => ∃ (v : Value) (j : Nat), v = s3 ∧ j ≤ 8 ∧ s4 = .int .i64 j ∧ Own wr w.heap.size v ((by8 X).take j) ∧ Kp w wr) (fun _ s4 _ => 8 - (intOf s4).toNat)
  case atStart => exact ⟨_, 0, rfl, Nat.zero_le _, rfl, by simpa using Own.nil w w.heap.size, Kp.refl _⟩
  case round =>
    obtain ⟨v, j, rfl, hj, rfl, hown, hkp⟩ := hrel
    by_cases cj : j < 8
    · have hlen : ((by8 X).take j).length = j := by rw [List.length_take, by8_len]; omega
      have hpush := by8_push X j cj
      have HP : Hid ((by8 X).take j ++ [((bt X j : Nat) : Int)] = (by8 X).take (j + 1)) := hpush
      have hown' : wr.ownsRow w.heap.size 5 1 v (((by8 X).take j).length) (((by8 X).take j).map (Value.int .u8)) := hown
      have hob := own_block hown
      have hsz := hkp.size
      have hA := u64_and255 (X / 2 ^ (8 * j)) (Nat.lt_of_le_of_lt (Nat.div_le_self _ _) hX)
      have hB := shr_bt X j
      have hC : ((X / 2 ^ (8 * j) : Nat) : Int) = (X : Int) / 2 ^ (8 * j) := by simp
      rw [hC] at hA
      have hD : bits .and .u64 ((X : Int) / 2 ^ (8 * j)) 255 % 256 = ((bt X j : Nat) : Int) := by rw [hA, ← hB]; omega
      have hkA : Kp wr (wr.alloc (.cells #[.int .u8 ((bt X j : Nat) : Int)] 5)) := (Kp.refl wr).alloc _
      clear hpush hA hB hC
      generalize ((bt X j : Nat) : Int) = Z at *
      have hnw : ∀ i u, ([Z].map (Value.int .u8))[i]? = some u → (wr.alloc (.cells #[.int .u8 Z] 5)).cell? ((⟨wr.heap.size, 0, none⟩ : Addr).add i) = some u := fun i u hu => cell_one_new wr (.int .u8 Z) 5 i u hu
      go_wp2_with (first | (at_builtin; refine wpList_append_own_at _ rfl _ _ 40 rfl w.heap.size 5 i0 (.int .u8 0) 1 1 Try.underlying40 hi0 hi1 hi2 hi3 rfl (by decide) _ _ _ rfl (hown'.alloc _) ⟨wr.heap.size, 0, none⟩ 1 1 (([Z]).map (Value.int .u8)) rfl ?zl hnw (one_u8 _) ?zm ?zb ?zs ?_))
      case zl => rfl
      case zm => unfold maxLen; omega
      case zb => omega
      case zs => simp; omega
      intro v' w2 hown2 hgrow _ hat
      have hO : Own w2 w.heap.size v' ((by8 X).take (j + 1)) := by
        rw [← HP.out]
        refine own_app (m := 1) rfl ?_
        rw [hlen, List.map_take]
        exact hown2
      have hK2 : Kp w w2 := (hkp.trans hkA).grown hgrow hob
      clear hown2 hgrow hat hnw hown' hown hkp hob hsz HP hlen hD hkA
      go_wp2
      exact ⟨⟨_, j + 1, rfl, by omega, by go_num, hO, hK2⟩, by simp [intOf]; omega⟩
    · have hj8 : (by8 X).take j = by8 X := List.take_of_length_le (by rw [by8_len]; omega)
      rw [hj8] at hown
      clear hj8
      go_wp2
      exact bodyPost_ret (v := v) (by simp [results, Try.results51, go_sem]) rfl ⟨_, rfl, hown, hkp⟩
set_option maxRecDepth 20000 in
set_option maxHeartbeats 1000000 in
theorem sixteen_ (X Y : Nat) (hX : X < 18446744073709551616) (hY : Y < 18446744073709551616) (w : World) :
    Calls Try.prog 31 #[.agg #[.int .u64 (X : Int), .int .u64 (Y : Int)]] w fun e w' => ∃ v, e = .returned v ∧ Own w' w.heap.size v (by8 X ++ by8 Y) ∧ Kp w w' := by
  obtain ⟨i0, hi0, hi1, hi2, hi3⟩ := inf8p
  have h1 := eight_ X hX
  have h2 := eight_ Y hY
  have q0 := Fq.H2.new w (.int .u64 (X : Int)) (.int .u64 (Y : Int)) 66
  have kw : Kp w (w.alloc (.cells #[.int .u64 (X : Int), .int .u64 (Y : Int)] 66)) := (Kp.refl w).alloc _
  clear hX hY
  go_enter Try.func31, Try.ntmps31
  go_upto_region 1 with fail
  generalize (w.alloc (.cells #[.int .u64 (X : Int), .int .u64 (Y : Int)] 66)) = W at q0 kw ⊢
  generalize w.heap.size = B0 at q0 ⊢
  obtain ⟨x0, x1, -⟩ := id q0
  go_upto_region 2 with (first | (go_at_call 51; refine (h1 _).mono ?_; rintro e w1 ⟨v1, rfl, o1, g1⟩; replace x1 := kkeep g1 x1))
  go_upto_region 3 with (first | (go_at_call 51; refine (h2 _).mono ?_; rintro e w2 ⟨v2, rfl, o2, g2⟩))
  have o1' := o1.kp g2
  have hsz1 := g1.size
  have hsz2 := g2.size
  have hw0 := kw.size
  obtain ⟨p2, c2, hv2, a2, -⟩ := o2.arr
  rw [by8_len] at hv2
  obtain ⟨b2, off2, rfl, hc2⟩ := a2.at (k := 0) (by rw [by8_len]; decide)
  subst hv2
  have hnw := arr_news hc2
  have ob1 := own_block o1
  clear h1 h2 q0 x0 x1 o1 o2 a2 hc2
  have o1'' : w2.ownsRow W.heap.size 5 1 v1 (by8 X).length ((by8 X).map (Value.int .u8)) := o1'
  rw [by8_len] at o1''
  go_wp2_with (first | (at_builtin; refine wpList_append_own_at _ rfl _ _ 40 rfl W.heap.size 5 i0 (.int .u8 0) 1 1 Try.underlying40 hi0 hi1 hi2 hi3 rfl (by decide) _ _ _ rfl o1'' ⟨b2, off2, none⟩ 8 c2 ((by8 Y).map (Value.int .u8)) rfl ?zl hnw (one_u8 _) ?zm ?zb ?zs ?_))
  case zl => rw [List.length_map, by8_len]
  case zm => unfold maxLen; omega
  case zb => omega
  case zs => omega
  intro v' w3 hown2 hgrow _ hat
  have hO : Own w3 W.heap.size v' (by8 X ++ by8 Y) := own_app (by8_len Y) (by rw [by8_len]; exact hown2)
  have hK : Kp w w3 := ((kw.trans g1).trans g2).grown hgrow (fun k hk => by have := ob1 k hk; omega)
  have hO2 := hO.mono hw0
  clear hown2 hgrow hat hnw o1' o1'' ob1 g1 g2 hO hsz1 hsz2 hw0 kw
  go_wp2
  exact bodyPost_ret (v := v') (by simp [results, Try.results31, go_sem]) rfl ⟨_, rfl, hO2, hK⟩
end X7
end Go.Proofs.Ytipedmnipolmeaa
namespace Go.Proofs.Ytipedmnipolmeaa
open Go.RowKit
open Go
namespace X7
set_option linter.unusedVariables false
open B8
theorem H5c.gr {w w' : World} {b : Nat} {v0 v1 v2 v3 v4 v v' : Value} (h : H5c w b v0 v1 v2 v3 v4) (g : Gr w w' v v') (hne : v.ownBlock ≠ some b) : H5c w' b v0 v1 v2 v3 v4 := by
  have hl := h.lt
  obtain ⟨h0, h1, h2, h3, h4, h5, h6, h7, h8, h9⟩ := h
  have e : w'.heap[b]? = w.heap[b]? := g.1.block b hl (fun e => hne e.symm)
  have f : ∀ o, w'.frozen? ⟨b, o, none⟩ = w.frozen? ⟨b, o, none⟩ := fun o => World.frozen?_of_block (w := w) e
  exact ⟨g.cell hne h0, g.cell hne h1, g.cell hne h2, g.cell hne h3, g.cell hne h4, (f _).trans h5, (f _).trans h6, (f _).trans h7, (f _).trans h8, (f _).trans h9⟩
set_option maxRecDepth 20000 in
set_option maxHeartbeats 16000000 in
theorem rencode_ (V : Int) (pc pk : Option Addr) (cc ck : Nat) (ps : List (Nat × Nat)) (L : List I5) (hV : 0 ≤ V ∧ V ≤ 32) (hN2 : ps.length ≤ 256) (hM2 : L.length ≤ 1024) (hln : ∀ i, i < L.length → S5 (L.getD i D5) ∧ (1 ≤ (L.getD i D5).1 ∧ (L.getD i D5).1 ≤ 21)) (w : World) (hx : AG ULV w pc ps) (hy : AI w pk L) (hw : Wq ps) :
    Calls Try.prog 11 #[.agg #[.int .i64 V, .slice pc ps.length cc, .slice pk L.length ck]] w fun e w' => ∃ v, e = .returned v ∧ Own w' w.heap.size v (enc V ps L) ∧ Kp w w' := by
  obtain ⟨i0, hi0, hi1, hi2, hi3⟩ := inf8p
  obtain ⟨N, hN⟩ : ∃ N, N = ps.length := ⟨_, rfl⟩
  obtain ⟨M, hM⟩ : ∃ M, M = L.length := ⟨_, rfl⟩
  rw [← hN] at hN2 ⊢
  rw [← hM] at hM2 ⊢
  have HX : Hid (AG ULV w pc ps ∧ AI w pk L ∧ Wq ps ∧ N = ps.length ∧ M = L.length ∧ ∀ i, i < L.length → S5 (L.getD i D5) ∧ (1 ≤ (L.getD i D5).1 ∧ (L.getD i D5).1 ≤ 21)) := ⟨hx, hy, hw, hN, hM, hln⟩
  have kA : Kp w (w.alloc (.cells #[.int .i64 V, .slice pc N cc, .slice pk M ck] 25)) := (Kp.refl w).alloc _
  have kB : Kp (w.alloc (.cells #[.int .i64 V, .slice pc N cc, .slice pk M ck] 25)) ((w.alloc (.cells #[.int .i64 V, .slice pc N cc, .slice pk M ck] 25)).alloc (.cells #[.int .u8 86, .int .u8 71, .int .u8 1, .int .u8 (V % 256)] 5)) := (Kp.refl _).alloc _
  have z0 : (w.alloc (.cells #[.int .i64 V, .slice pc N cc, .slice pk M ck] 25)).cell? ⟨w.heap.size, 0, none⟩ = some (.int .i64 V) := by simp [go_sem]
  have z1 : (w.alloc (.cells #[.int .i64 V, .slice pc N cc, .slice pk M ck] 25)).cell? ⟨w.heap.size, 1, none⟩ = some (.slice pc N cc) := by simp [go_sem]
  have z2 : (w.alloc (.cells #[.int .i64 V, .slice pc N cc, .slice pk M ck] 25)).cell? ⟨w.heap.size, 2, none⟩ = some (.slice pk M ck) := by simp [go_sem]
  have hO : Own ((w.alloc (.cells #[.int .i64 V, .slice pc N cc, .slice pk M ck] 25)).alloc (.cells #[.int .u8 86, .int .u8 71, .int .u8 1, .int .u8 (V % 256)] 5)) (w.heap.size + 1) (.slice (some ⟨w.heap.size + 1, 0, none⟩) 4 4) [86, 71, 1, V % 256] := by
    have h := World.ownsRow_lit (base := (w.heap.size + 1)) (e := 5) (size := 1) (w.alloc (.cells #[.int .i64 V, .slice pc N cc, .slice pk M ck] 25)) #[.int .u8 86, .int .u8 71, .int .u8 1, .int .u8 (V % 256)] 4 (by simp) (by decide) rfl
    simpa [Own] using h
  have hs : (w.heap.size + 1) ≤ ((w.alloc (.cells #[.int .i64 V, .slice pc N cc, .slice pk M ck] 25)).alloc (.cells #[.int .u8 86, .int .u8 71, .int .u8 1, .int .u8 (V % 256)] 5)).heap.size := by simp
  have k1 := kA.trans kB
  clear hx hy hw hN hM hln hV
  go_enter Try.func11, Try.ntmps11
  go_upto_region 2 with fail
  replace z1 := kkeep kB z1
  replace z2 := kkeep kB z2
  generalize ((w.alloc (.cells #[.int .i64 V, .slice pc N cc, .slice pk M ck] 25)).alloc (.cells #[.int .u8 86, .int .u8 71, .int .u8 1, .int .u8 (V % 256)] 5)) = W2 at hO hs k1 z1 z2 ⊢
  clear kA kB z0
  have h2 := fun W => two_ (N : Int) W (by omega)
  have h2M := fun W => two_ (M : Int) W (by omega)
  obtain ⟨v1, hv1⟩ : ∃ v1, v1 = Value.slice (some ⟨w.heap.size + 1, 0, none⟩) 4 4 := ⟨_, rfl⟩
  rw [← hv1] at hO ⊢
  have hob := own_block hO
  have hne : v1.ownBlock ≠ some w.heap.size := fun e => by have := hob _ e; omega
  clear hv1
  have XS4 : (([86, 71, 1, V % 256] : List Int)).length = 4 := rfl
  obtain ⟨H9, hH9⟩ : ∃ H9 : List Int, H9 = [86, 71, 1, V % 256] := ⟨_, rfl⟩
  rw [← hH9] at hO XS4
  have HH9 : Hid (H9 = [86, 71, 1, V % 256] ∧ H9.length = 4) := ⟨hH9, XS4⟩
  clear hH9 XS4
  go_upto_region 3 with (first | (go_at_call 30; refine (h2 _).mono ?_; rintro e w7 ⟨g7b, rfl, hg7, c7, g7⟩; have hO7 : w7.ownsRow (w.heap.size + 1) 5 1 v1 (H9).length ((H9).map (Value.int .u8)) := Own.kp hO g7; have hnw7 := arr_news c7; have hs7 := (Nat.le_trans hs (Below.size g7)); clear c7) | (at_builtin; refine wpList_append_own_at _ rfl _ _ 40 rfl (w.heap.size + 1) 5 i0 (.int .u8 0) 1 1 Try.underlying40 hi0 hi1 hi2 hi3 rfl (by decide) _ _ _ rfl hO7 ⟨g7b, 0, none⟩ 2 2 ((wd (N : Int)).map (Value.int .u8)) rfl ?zl hnw7 (one_u8 _) ?zm ?zb ?zs ?_))
  case zl => rw [List.length_map]; rfl
  case zm => have := HH9.out.2; unfold maxLen; omega
  case zb => have := HH9.out.2; omega
  case zs => exact hs7
  intro v2 w2 hown2 hgrow _ hat
  have hG : Gr W2 w2 v1 v2 := (Gr.kp g7 v1).trans ⟨hgrow, hat.imp id (fun e => ⟨_, e, Nat.le_refl _⟩)⟩
  have o2 : Own w2 (w.heap.size + 1) v2 (H9 ++ wd (N : Int)) := own_app rfl hown2
  replace z1 := hG.cell hne z1
  replace z2 := hG.cell hne z2
  have k2 : Kp w w2 := hG.kp0 k1 (fun g hg => by have := hob g hg; omega)
  have hs2 : (w.heap.size + 1) ≤ w2.heap.size := Nat.le_trans hs hG.size
  clear hown2 hgrow hat hG hO7 hnw7 hO hob hne k1 hs g7 hg7 hs7 h2
  go_upto_region 3 with fail
  obtain ⟨PR, hPR⟩ : ∃ PR, PR = H9 ++ wd (N : Int) := ⟨_, rfl⟩
  have hPl : PR.length = 6 := by rw [hPR, List.length_append, HH9.out.2]; rfl
  rw [← hPR] at o2
  have HP : Hid (PR = [86, 71, 1, V % 256] ++ wd (N : Int)) := by show _ = _; rw [hPR, HH9.out.1]
  have HS : Hid (Own w2 (w.heap.size + 1) v2 (PR ++ (ps.take 0).flatMap cB) ∧ w2.cell? ⟨w.heap.size, 1, none⟩ = some (.slice pc N cc) ∧ w2.cell? ⟨w.heap.size, 2, none⟩ = some (.slice pk M ck) ∧ Kp w w2 ∧ (w.heap.size + 1) ≤ w2.heap.size) := ⟨by simpa using o2, z1, z2, k2, hs2⟩
  clear hPR o2 k2 hs2 z1 z2 HH9
  go_wp2_with fail
  go_loopw [3, 4] (fun s3 s4 wr => ∃ (j : Nat) (v9 : Value), s4 = .int .i64 j ∧ j ≤ N ∧ v9 = s3 ∧ Own wr (w.heap.size + 1) v9 (PR ++ (ps.take j).flatMap cB) ∧ wr.cell? ⟨w.heap.size, 1, none⟩ = some (.slice pc N cc) ∧ wr.cell? ⟨w.heap.size, 2, none⟩ = some (.slice pk M ck) ∧ Kp w wr ∧ (w.heap.size + 1) ≤ wr.heap.size) (fun _ s4 _ => N - (intOf s4).toNat)
  case atStart => exact ⟨0, v2, rfl, Nat.zero_le _, rfl, HS.out⟩
  case round =>
    clear HS
    obtain ⟨j, v9, rfl, hj, rfl, hO, z1, z2, kp, hs⟩ := hrel
    obtain ⟨hx, hy, hw, hN, hM, hln⟩ := HX.out
    have hob := own_block hO
    have hne : v9.ownBlock ≠ some w.heap.size := fun e => by have := hob _ e; omega
    have hlenj : (PR ++ (ps.take j).flatMap cB).length ≤ 5000 := by
      have h1 := flatMap_len cB 16 (fun x => by unfold cB; rw [List.length_append, by8_len, by8_len]; decide) (ps.take j)
      rw [List.length_take] at h1
      rw [List.length_append, hPl]; omega
    by_cases cj : j < N
    · have HJ : Hid (j < N) := cj
      obtain ⟨b, off, rfl, hc2⟩ := hx.at (k := j) (by omega)
      have hfm := flatMap_take cB ps (0, 0) j (by omega)
      obtain ⟨f1, f2⟩ := hc2 j (by omega)
      have hwj := hw j
      obtain ⟨Y, hY⟩ : ∃ Y, Y = ps.getD j (0, 0) := ⟨_, rfl⟩
      rw [← hY] at f1 f2 hwj hfm
      obtain ⟨Y1, Y2⟩ := Y
      simp only at f1 f2 hwj
      replace f1 : wr.cell? ⟨b, off + j * 2, none⟩ = some (.int .u64 (Y1 : Int)) := kkeep kp f1
      replace f2 : wr.cell? ⟨b, off + j * 2 + 1, none⟩ = some (.int .u64 (Y2 : Int)) := kkeep kp f2
      have hsx := sixteen_ Y1 Y2 hwj.1 hwj.2 wr
      have HF : Hid ((ps.take (j + 1)).flatMap cB = (ps.take j).flatMap cB ++ (by8 Y1 ++ by8 Y2)) := hfm
      obtain ⟨ZS, hZS⟩ : ∃ ZS, ZS = PR ++ (ps.take j).flatMap cB := ⟨_, rfl⟩
      rw [← hZS] at hO hlenj
      have HZ : Hid (ZS = PR ++ (ps.take j).flatMap cB) := hZS
      have hl16 : (by8 Y1 ++ by8 Y2).length = 16 := by rw [List.length_append, by8_len, by8_len]
      clear hwj hY hc2 hx hy hw hN hM hln hfm hZS HX h2M
      go_wp2_with (first | (go_at_call 31; refine hsx.mono ?_; rintro e w7 ⟨vs, rfl, os, g7⟩; have hO7 : w7.ownsRow (w.heap.size + 1) 5 1 v9 ZS.length (ZS.map (Value.int .u8)) := hO.kp g7; obtain ⟨p7, c7, hv7, a7, -⟩ := os.arr; rw [hl16] at hv7; obtain ⟨b7, o7, rfl, cl7⟩ := a7.at (k := 0) (by rw [hl16]; decide); subst hv7; have hnw7 := arr_news cl7; have hs7 := Nat.le_trans hs g7.size; clear a7 cl7 os) | (at_builtin; refine wpList_append_own_at _ rfl _ _ 40 rfl (w.heap.size + 1) 5 i0 (.int .u8 0) 1 1 Try.underlying40 hi0 hi1 hi2 hi3 rfl (by decide) _ _ _ rfl hO7 ⟨b7, o7, none⟩ 16 c7 ((by8 Y1 ++ by8 Y2).map (Value.int .u8)) rfl ?zl hnw7 (one_u8 _) ?zm ?zb ?zs ?_))
      case zl => rw [List.length_map, hl16]
      case zm => unfold maxLen; omega
      case zb => omega
      case zs => exact hs7
      intro v' w8 hown2 hgrow _ hat
      have hO8 : Own w8 (w.heap.size + 1) v' (PR ++ (ps.take (j + 1)).flatMap cB) := by
        rw [HF.out, ← List.append_assoc, ← HZ.out]
        exact own_app hl16 hown2
      have hG : Gr wr w8 v9 v' := (Gr.kp g7 v9).trans ⟨hgrow, hat.imp id (fun e => ⟨_, e, Nat.le_refl _⟩)⟩
      have z18 := hG.cell hne z1
      have z28 := hG.cell hne z2
      have kp8 : Kp w w8 := hG.kp0 kp (fun g hg => by have := hob g hg; omega)
      have hs8 : (w.heap.size + 1) ≤ w8.heap.size := Nat.le_trans hs hG.size
      clear hown2 hgrow hat hG hO7 hnw7 hO hob hne z1 z2 kp hs g7 hs7 hsx f1 f2 HF HZ hl16 hlenj
      go_wp2
      have hJ : j < N := HJ.out
      exact ⟨⟨j + 1, v', by go_num, hJ, rfl, hO8, z18, z28, kp8, hs8⟩, by simp [intOf]; omega⟩
    · rw [show ps.take j = ps from List.take_of_length_le (by omega)] at hO hlenj
      obtain ⟨P1, hP1⟩ : ∃ P1, P1 = PR ++ ps.flatMap cB := ⟨_, rfl⟩
      rw [← hP1] at hO hlenj
      have HP1 : Hid (P1 = PR ++ ps.flatMap cB ∧ P1.length ≤ 5000) := ⟨hP1, hlenj⟩
      clear hx hy hw hN hM hln hP1
      go_upto_region 8 with (first | (go_at_call 30; refine (h2M _).mono ?_; rintro e w7 ⟨g7b, rfl, hg7, c7, g7⟩; have hO7 : w7.ownsRow (w.heap.size + 1) 5 1 v9 (P1).length ((P1).map (Value.int .u8)) := Own.kp hO g7; have hnw7 := arr_news c7; have hs7 := (Nat.le_trans hs (Below.size g7)); clear c7) | (at_builtin; refine wpList_append_own_at _ rfl _ _ 40 rfl (w.heap.size + 1) 5 i0 (.int .u8 0) 1 1 Try.underlying40 hi0 hi1 hi2 hi3 rfl (by decide) _ _ _ rfl hO7 ⟨g7b, 0, none⟩ 2 2 ((wd (M : Int)).map (Value.int .u8)) rfl ?zl hnw7 (one_u8 _) ?zm ?zb ?zs ?_))
      case zl => rw [List.length_map]; rfl
      case zm => unfold maxLen; omega
      case zb => omega
      case zs => exact hs7
      intro v3 w3 hown2 hgrow _ hat
      have hG : Gr wr w3 v9 v3 := (Gr.kp g7 v9).trans ⟨hgrow, hat.imp id (fun e => ⟨_, e, Nat.le_refl _⟩)⟩
      have o3 : Own w3 (w.heap.size + 1) v3 (P1 ++ wd (M : Int)) := own_app rfl hown2
      have z18 := hG.cell hne z1
      have z28 := hG.cell hne z2
      have kp8 : Kp w w3 := hG.kp0 kp (fun g hg => by have := hob g hg; omega)
      have hs8 : (w.heap.size + 1) ≤ w3.heap.size := Nat.le_trans hs hG.size
      clear hown2 hgrow hat hG hO7 hnw7 hO hob hne z1 z2 kp hs g7 hg7 hs7 h2M
      obtain ⟨P2, hP2⟩ : ∃ P2, P2 = P1 ++ wd (M : Int) := ⟨_, rfl⟩
      have hP2l : P2.length ≤ 5002 := by rw [hP2, List.length_append, wd_len]; omega
      rw [← hP2] at o3
      have HP2 : Hid (P2 = [86, 71, 1, V % 256] ++ wd (N : Int) ++ ps.flatMap cB ++ wd (M : Int)) := by show _ = _; rw [hP2, HP1.out.1, HP.out]
      have HS : Hid (Own w3 (w.heap.size + 1) v3 (P2 ++ (L.take 0).flatMap lnB) ∧ w3.cell? ⟨w.heap.size, 1, none⟩ = some (.slice pc N cc) ∧ w3.cell? ⟨w.heap.size, 2, none⟩ = some (.slice pk M ck) ∧ Kp w w3 ∧ (w.heap.size + 1) ≤ w3.heap.size) := ⟨by simpa using o3, z18, z28, kp8, hs8⟩
      clear hP2 o3 kp8 hs8 z18 z28 hlenj cj hj HP1 HP hPl
      go_upto_region 8 with fail
      go_wp2_with fail
      go_loopw [3, 5, 6, 7] (fun s3 s5 s6 s7 wr => ∃ (i : Nat) (v9 : Value), s5 = .int .i64 i ∧ i ≤ M ∧ v9 = s3 ∧ Own wr (w.heap.size + 1) v9 (P2 ++ (L.take i).flatMap lnB) ∧ wr.cell? ⟨w.heap.size, 1, none⟩ = some (.slice pc N cc) ∧ wr.cell? ⟨w.heap.size, 2, none⟩ = some (.slice pk M ck) ∧ Kp w wr ∧ (w.heap.size + 1) ≤ wr.heap.size) (fun _ s5 _ _ _ => M - (intOf s5).toNat)
      case atStart => exact ⟨0, v3, rfl, Nat.zero_le _, rfl, HS.out⟩
      case round =>
        clear HS
        obtain ⟨i, v9, rfl, hi, rfl, hO, z1, z2, kp, hs⟩ := hrel
        obtain ⟨hx, hy, hw, hN, hM, hln⟩ := HX.out
        have hob := own_block hO
        have hne : v9.ownBlock ≠ some w.heap.size := fun e => by have := hob _ e; omega
        have hleni : (P2 ++ (L.take i).flatMap lnB).length ≤ 20000 := by
          have h1 := flatMap_len lnB 9 lnB_len (L.take i)
          rw [List.length_take] at h1
          rw [List.length_append]; omega
        by_cases ci : i < M
        · obtain ⟨b, off, rfl, hc5⟩ := hy.at (k := i) (by omega)
          obtain ⟨e0, e1, e2, e3, e4⟩ := hc5 i (by omega)
          have hfm := flatMap_take lnB L D5 i (by omega)
          obtain ⟨hs5, hop5⟩ := hln i (by omega)
          obtain ⟨X, hX⟩ : ∃ X, X = L.getD i D5 := ⟨_, rfl⟩
          rw [← hX] at e0 e1 e2 e3 e4 hfm hs5 hop5
          obtain ⟨x0, x1, x2, x3, x4⟩ := X
          simp only at e0 e1 e2 e3 e4 hop5
          replace e0 := kkeep kp e0
          replace e1 := kkeep kp e1
          replace e2 := kkeep kp e2
          replace e3 := kkeep kp e3
          replace e4 := kkeep kp e4
          have hop := ropands_ x0
          rw [(opN_opsN x0).1 hop5] at hop
          obtain ⟨U, hU⟩ : ∃ U : Int, U = opN x0 := ⟨_, rfl⟩
          rw [← hU] at hop
          have hUb := opN_b x0
          rw [← hU] at hUb
          obtain ⟨XS, hXS⟩ : ∃ XS, XS = P2 ++ (L.take i).flatMap lnB := ⟨_, rfl⟩
          rw [← hXS] at hO hleni
          have HXS : Hid (XS = P2 ++ (L.take i).flatMap lnB) := hXS
          have HU : Hid (U = opN x0 ∧ ((-32768 ≤ x1 ∧ x1 ≤ 65535) ∧ (-32768 ≤ x2 ∧ x2 ≤ 65535) ∧ (-32768 ≤ x3 ∧ x3 ≤ 65535) ∧ (-32768 ≤ x4 ∧ x4 ≤ 65535)) ∧ XS.length ≤ 20000 ∧ (L.take (i + 1)).flatMap lnB = (L.take i).flatMap lnB ++ lnB (x0, x1, x2, x3, x4) ∧ i < M) := ⟨hU, hs5, hleni, hfm, ci⟩
          have kX : Kp wr (wr.alloc (.cells #[.int .i64 x0, .int .i64 x1, .int .i64 x2, .int .i64 x3, .int .i64 x4] 61)) := (Kp.refl wr).alloc _
          have kY : Kp (wr.alloc (.cells #[.int .i64 x0, .int .i64 x1, .int .i64 x2, .int .i64 x3, .int .i64 x4] 61)) ((wr.alloc (.cells #[.int .i64 x0, .int .i64 x1, .int .i64 x2, .int .i64 x3, .int .i64 x4] 61)).alloc (.cells #[.int .u8 (x0 % 256)] 5)) := (Kp.refl _).alloc _
          have s6 : H5c (wr.alloc (.cells #[.int .i64 x0, .int .i64 x1, .int .i64 x2, .int .i64 x3, .int .i64 x4] 61)) wr.heap.size (.int .i64 x0) (.int .i64 x1) (.int .i64 x2) (.int .i64 x3) (.int .i64 x4) := H5c.new wr _ _ _ _ _ 61
          have hnw : ∀ k u, ([x0 % 256].map (Value.int .u8))[k]? = some u → ((wr.alloc (.cells #[.int .i64 x0, .int .i64 x1, .int .i64 x2, .int .i64 x3, .int .i64 x4] 61)).alloc (.cells #[.int .u8 (x0 % 256)] 5)).cell? ((⟨wr.heap.size + 1, 0, none⟩ : Addr).add k) = some u := fun k u hu => by
            have h := cell_one_new (wr.alloc (.cells #[.int .i64 x0, .int .i64 x1, .int .i64 x2, .int .i64 x3, .int .i64 x4] 61)) (.int .u8 (x0 % 256)) 5 k u hu
            simpa using h
          have hvl := World.ownsRow.lt hO
          have hne6 : v9.ownBlock ≠ some wr.heap.size := fun e => by have := (hvl _ e).2; omega
          have hO' : wr.ownsRow (w.heap.size + 1) 5 1 v9 XS.length (XS.map (Value.int .u8)) := hO
          obtain ⟨p0, p1, p2, p3, p4, -⟩ := id s6
          clear hx hy hw hN hM hln hc5 hX hfm hs5 hop5 hU hXS HX hvl
          go_upto_region 13 with (first | (at_builtin; refine wpList_append_own_at _ rfl _ _ 40 rfl (w.heap.size + 1) 5 i0 (.int .u8 0) 1 1 Try.underlying40 hi0 hi1 hi2 hi3 rfl (by decide) _ _ _ rfl ((hO'.alloc _).alloc _) ⟨wr.heap.size + 1, 0, none⟩ 1 1 (([x0 % 256]).map (Value.int .u8)) rfl ?zl hnw (one_u8 _) ?zm ?zb ?zs ?_))
          case zl => rfl
          case zm => unfold maxLen; omega
          case zb => omega
          case zs => simp; omega
          intro v8 w8 hown2 hgrow _ hat
          have hG8 : Gr ((wr.alloc (.cells #[.int .i64 x0, .int .i64 x1, .int .i64 x2, .int .i64 x3, .int .i64 x4] 61)).alloc (.cells #[.int .u8 (x0 % 256)] 5)) w8 v9 v8 := ⟨hgrow, hat.imp id (fun e => ⟨_, e, by simp⟩)⟩
          have hG : Gr wr w8 v9 v8 := (Gr.kp (kX.trans kY) v9).trans hG8
          have hO8 : Own w8 (w.heap.size + 1) v8 (XS ++ [x0 % 256]) := own_app rfl hown2
          have s68 : H5c w8 wr.heap.size (.int .i64 x0) (.int .i64 x1) (.int .i64 x2) (.int .i64 x3) (.int .i64 x4) := H5c.gr (s6.keep kY) hG8 hne6
          have hn68 : v8.ownBlock ≠ some wr.heap.size := hG8.ne hne6 (by simp; omega)
          have z18 := hG.cell hne z1
          have z28 := hG.cell hne z2
          have kp8 : Kp w w8 := hG.kp0 kp (fun g hg => by have := hob g hg; omega)
          have hs8 : (w.heap.size + 1) ≤ w8.heap.size := Nat.le_trans hs hG.size
          clear hown2 hgrow hat hG hG8 hnw hO hO' hob hne hne6 z1 z2 kp hs kX kY s6 e0 e1 e2 e3 e4 p0 p1 p2 p3 p4 hleni ci
          go_upto_region 13 with fail
          generalize wr.heap.size = B6 at s68 hn68 ⊢
          have HS : Hid (Own w8 (w.heap.size + 1) v8 (XS ++ [x0 % 256] ++ opB (x0, x1, x2, x3, x4) 0) ∧ w8.cell? ⟨w.heap.size, 1, none⟩ = some (.slice pc N cc) ∧ w8.cell? ⟨w.heap.size, 2, none⟩ = some (.slice (some ⟨b, off, none⟩) M ck) ∧ H5c w8 B6 (.int .i64 x0) (.int .i64 x1) (.int .i64 x2) (.int .i64 x3) (.int .i64 x4) ∧ v8.ownBlock ≠ some B6 ∧ Kp w w8 ∧ (w.heap.size + 1) ≤ w8.heap.size) := ⟨by simpa [opB] using hO8, z18, z28, s68, hn68, kp8, hs8⟩
          clear hO8 z18 z28 s68 hn68 kp8 hs8
          go_wp2_with fail
          go_loopw [3, 7] (fun s3 s7 wr => ∃ (j : Nat) (v9 : Value), ((j = 0 ∧ s7 = .int .i64 0) ∨ (j = 1 ∧ s7 = .int .i64 1) ∨ (j = 2 ∧ s7 = .int .i64 2) ∨ (j = 3 ∧ s7 = .int .i64 3)) ∧ v9 = s3 ∧ (j : Int) ≤ U ∧ Own wr (w.heap.size + 1) v9 (XS ++ [x0 % 256] ++ opB (x0, x1, x2, x3, x4) j) ∧ wr.cell? ⟨w.heap.size, 1, none⟩ = some (.slice pc N cc) ∧ wr.cell? ⟨w.heap.size, 2, none⟩ = some (.slice (some ⟨b, off, none⟩) M ck) ∧ H5c wr B6 (.int .i64 x0) (.int .i64 x1) (.int .i64 x2) (.int .i64 x3) (.int .i64 x4) ∧ v9.ownBlock ≠ some B6 ∧ Kp w wr ∧ (w.heap.size + 1) ≤ wr.heap.size) (fun _ s7 _ => 3 - (intOf s7).toNat)
          case atStart => exact ⟨0, v8, Or.inl ⟨rfl, rfl⟩, rfl, hUb.1, HS.out⟩
          case round =>
            clear HS
            obtain ⟨j, v9, hj, rfl, hjU, hO, z1, z2, s6, hn6, kp, hb9⟩ := hrel
            rcases hj with ⟨rfl, rfl⟩ | ⟨rfl, rfl⟩ | ⟨rfl, rfl⟩ | ⟨rfl, rfl⟩
            · by_cases cu : (0 : Int) < U
              · have h9 := HU.out
                have ho9 := roperand0_ x0 x1 x2 x3 x4
                have h2 := fun W => two_ x1 W h9.2.1.1
                have hl9 : (XS ++ [x0 % 256] ++ opB (x0, x1, x2, x3, x4) 0).length ≤ 30000 := by
                  have := h9.2.2.1
                  rw [List.length_append, List.length_append, opB_len _ _ (by decide)]
                  simp
                  omega
                have e9 : XS ++ [x0 % 256] ++ opB (x0, x1, x2, x3, x4) 1 = XS ++ [x0 % 256] ++ opB (x0, x1, x2, x3, x4) 0 ++ wd x1 := by simp [opB, List.append_assoc]
                obtain ⟨ZS, hZS⟩ : ∃ ZS, ZS = XS ++ [x0 % 256] ++ opB (x0, x1, x2, x3, x4) 0 := ⟨_, rfl⟩
                rw [← hZS] at hO hl9 e9
                have hob := own_block hO
                have hne : v9.ownBlock ≠ some w.heap.size := fun e => by have := hob _ e; omega
                have HG : Hid ((0 : Int) < U) := cu
                obtain ⟨p0, p1, p2, p3, p4, -⟩ := id s6
                clear h9 hZS
                go_wp2_with (first | (go_at_call 32; refine (hop _).mono ?_; rintro e w' ⟨rfl, hw'⟩; obtain rfl := hw'.symm; clear hw') | (go_at_call 33; refine (ho9 _).mono ?_; rintro e w5 ⟨rfl, g5⟩) | (go_at_call 30; refine (h2 _).mono ?_; rintro e w7 ⟨g7b, rfl, hg7, c7, g7⟩; have hO7 : w7.ownsRow (w.heap.size + 1) 5 1 v9 (ZS).length ((ZS).map (Value.int .u8)) := Own.kp hO (g5.trans g7); have hnw7 := arr_news c7; have hs7 := (Nat.le_trans hb9 (Below.size (g5.trans g7))); clear c7) | (at_builtin; refine wpList_append_own_at _ rfl _ _ 40 rfl (w.heap.size + 1) 5 i0 (.int .u8 0) 1 1 Try.underlying40 hi0 hi1 hi2 hi3 rfl (by decide) _ _ _ rfl hO7 ⟨g7b, 0, none⟩ 2 2 ((wd x1).map (Value.int .u8)) rfl ?zl hnw7 (one_u8 _) ?zm ?zb ?zs ?_))
                case zl => rw [List.length_map]; rfl
                case zm => unfold maxLen; omega
                case zb => omega
                case zs => exact hs7
                intro v' w8 hown2 hgrow _ hat
                have hG : Gr wr w8 v9 v' := (Gr.kp (g5.trans g7) v9).trans ⟨hgrow, hat.imp id (fun e => ⟨_, e, Nat.le_refl _⟩)⟩
                have hO8 : Own w8 (w.heap.size + 1) v' (XS ++ [x0 % 256] ++ opB (x0, x1, x2, x3, x4) 1) := by rw [e9]; exact own_app rfl hown2
                have z18 := hG.cell hne z1
                have z28 := hG.cell hne z2
                have s68 : H5c w8 B6 (.int .i64 x0) (.int .i64 x1) (.int .i64 x2) (.int .i64 x3) (.int .i64 x4) := H5c.gr s6 hG hn6
                have hn68 := hG.ne hn6 s6.lt
                have kp8 : Kp w w8 := hG.kp0 kp (fun g hg => by have := hob g hg; omega)
                have hs8 : (w.heap.size + 1) ≤ w8.heap.size := Nat.le_trans hb9 hG.size
                clear hown2 hgrow hat hG hO7 hnw7 hO hob hne z1 z2 s6 hn6 kp g5 g7 h2 ho9 hg7 hs7 p0 p1 p2 p3 p4 e9 hl9
                go_wp2
                exact ⟨⟨1, v', Or.inr (Or.inl ⟨rfl, rfl⟩), rfl, by have := HG.out; omega, hO8, z18, z28, s68, hn68, kp8, hs8⟩, by decide⟩
              · obtain rfl : U = 0 := by omega
                have hH := HU.out
                rw [show opB (x0, x1, x2, x3, x4) 0 = opB (x0, x1, x2, x3, x4) (opN x0).toNat from by rw [← hH.1]; rfl] at hO
                have hl9 : (XS ++ [x0 % 256] ++ opB (x0, x1, x2, x3, x4) (opN x0).toNat).length ≤ 30000 := by
                  rw [List.length_append, List.length_append, opB_len _ _ (by have := opN_b x0; omega)]
                  have := opN_b x0
                  have := hH.2.2.1
                  simp
                  omega
                have hob := own_block hO
                obtain ⟨p0, p1, p2, p3, p4, -⟩ := id s6
                by_cases cn : x0 = 1 ∨ x0 = 12
                · have HL : Hid (lnB (x0, x1, x2, x3, x4) = [x0 % 256] ++ opB (x0, x1, x2, x3, x4) (opN x0).toNat ++ wd x4) := by show _ = _; unfold lnB; rw [if_pos cn]
                  have h2 := two_ x4 wr hH.2.1.2.2.2
                  obtain ⟨ZS, hZS⟩ : ∃ ZS, ZS = XS ++ [x0 % 256] ++ opB (x0, x1, x2, x3, x4) (opN x0).toNat := ⟨_, rfl⟩
                  rw [← hZS] at hO hl9
                  have HZ : Hid (ZS = XS ++ [x0 % 256] ++ opB (x0, x1, x2, x3, x4) (opN x0).toNat) := hZS
                  have HF := hH.2.2.2.1
                  have hne : v9.ownBlock ≠ some w.heap.size := fun e => by have := hob _ e; omega
                  have hkpW : w.heap.size ≤ w.heap.size + 1 := by omega
                  have HJ : Hid (i < M) := hH.2.2.2.2
                  rcases cn with rfl | rfl
                  all_goals (
                    clear hZS hH HU
                    go_wp2_with (first | (go_at_call 32; refine (hop _).mono ?_; rintro e w' ⟨rfl, hw'⟩; obtain rfl := hw'.symm; clear hw') | (go_at_call 30; refine h2.mono ?_; rintro e w7 ⟨g7b, rfl, hg7, c7, g7⟩; have hO7 : w7.ownsRow (w.heap.size + 1) 5 1 v9 (ZS).length ((ZS).map (Value.int .u8)) := Own.kp hO g7; have hnw7 := arr_news c7; have hs7 := (Nat.le_trans hb9 (Below.size g7)); clear c7) | (at_builtin; refine wpList_append_own_at _ rfl _ _ 40 rfl (w.heap.size + 1) 5 i0 (.int .u8 0) 1 1 Try.underlying40 hi0 hi1 hi2 hi3 rfl (by decide) _ _ _ rfl hO7 ⟨g7b, 0, none⟩ 2 2 ((wd x4).map (Value.int .u8)) rfl ?zl hnw7 (one_u8 _) ?zm ?zb ?zs ?_))
                    case zl => rw [List.length_map]; rfl
                    case zm => unfold maxLen; omega
                    case zb => omega
                    case zs => exact hs7
                    intro v' w8 hown2 hgrow _ hat
                    have hG : Gr wr w8 v9 v' := (Gr.kp g7 v9).trans ⟨hgrow, hat.imp id (fun e => ⟨_, e, Nat.le_refl _⟩)⟩
                    have hO8 : Own w8 (w.heap.size + 1) v' (ZS ++ wd x4) := own_app rfl hown2
                    have z18 := hG.cell hne z1
                    have z28 := hG.cell hne z2
                    have kp8 : Kp w w8 := hG.kp0 kp (fun g hg => by have := hob g hg; omega)
                    have hs8 : (w.heap.size + 1) ≤ w8.heap.size := Nat.le_trans hb9 hG.size
                    have e9 : P2 ++ (L.take (i + 1)).flatMap lnB = ZS ++ wd x4 := by rw [HF, HL.out, HZ.out]; simp [List.append_assoc, HXS.out]
                    clear hown2 hgrow hat hG hO7 hnw7 hO hob hne z1 z2 kp g7 h2 hg7 hs7 s6 p0 p1 p2 p3 p4 hop hl9
                    go_wp2
                    have hJ : i < M := HJ.out
                    exact ⟨⟨i + 1, v', by go_num, hJ, rfl, by rw [e9]; exact hO8, z18, z28, kp8, hs8⟩, by simp [intOf]; omega⟩)
                · have HL : Hid (lnB (x0, x1, x2, x3, x4) = [x0 % 256] ++ opB (x0, x1, x2, x3, x4) (opN x0).toNat) := by show _ = _; unfold lnB; rw [if_neg cn, List.append_nil]
                  have HF := hH.2.2.2.1
                  have e9 : P2 ++ (L.take (i + 1)).flatMap lnB = XS ++ [x0 % 256] ++ opB (x0, x1, x2, x3, x4) (opN x0).toNat := by rw [HF, HL.out]; simp [List.append_assoc, HXS.out]
                  have d1 : (x0 == 1) = false := beq_eq_false_iff_ne.2 (fun h => cn (Or.inl h))
                  have d2 : (x0 == 12) = false := beq_eq_false_iff_ne.2 (fun h => cn (Or.inr h))
                  have HJ : Hid (i < M) := hH.2.2.2.2
                  clear cn hH hl9 HU hob
                  go_wp2_with (first | (go_at_call 32; refine (hop _).mono ?_; rintro e w' ⟨rfl, hw'⟩; obtain rfl := hw'.symm; clear hw'))
                  have hJ : i < M := HJ.out
                  exact ⟨⟨i + 1, v9, by go_num, hJ, rfl, by rw [e9]; exact hO, z1, z2, kp, hb9⟩, by simp [intOf]; omega⟩
            · by_cases cu : (1 : Int) < U
              · have h9 := HU.out
                have ho9 := roperand1_ x0 x1 x2 x3 x4
                have h2 := fun W => two_ x2 W h9.2.1.2.1
                have hl9 : (XS ++ [x0 % 256] ++ opB (x0, x1, x2, x3, x4) 1).length ≤ 30000 := by
                  have := h9.2.2.1
                  rw [List.length_append, List.length_append, opB_len _ _ (by decide)]
                  simp
                  omega
                have e9 : XS ++ [x0 % 256] ++ opB (x0, x1, x2, x3, x4) 2 = XS ++ [x0 % 256] ++ opB (x0, x1, x2, x3, x4) 1 ++ wd x2 := by simp [opB, List.append_assoc]
                obtain ⟨ZS, hZS⟩ : ∃ ZS, ZS = XS ++ [x0 % 256] ++ opB (x0, x1, x2, x3, x4) 1 := ⟨_, rfl⟩
                rw [← hZS] at hO hl9 e9
                have hob := own_block hO
                have hne : v9.ownBlock ≠ some w.heap.size := fun e => by have := hob _ e; omega
                have HG : Hid ((1 : Int) < U) := cu
                obtain ⟨p0, p1, p2, p3, p4, -⟩ := id s6
                clear h9 hZS
                go_wp2_with (first | (go_at_call 32; refine (hop _).mono ?_; rintro e w' ⟨rfl, hw'⟩; obtain rfl := hw'.symm; clear hw') | (go_at_call 33; refine (ho9 _).mono ?_; rintro e w5 ⟨rfl, g5⟩) | (go_at_call 30; refine (h2 _).mono ?_; rintro e w7 ⟨g7b, rfl, hg7, c7, g7⟩; have hO7 : w7.ownsRow (w.heap.size + 1) 5 1 v9 (ZS).length ((ZS).map (Value.int .u8)) := Own.kp hO (g5.trans g7); have hnw7 := arr_news c7; have hs7 := (Nat.le_trans hb9 (Below.size (g5.trans g7))); clear c7) | (at_builtin; refine wpList_append_own_at _ rfl _ _ 40 rfl (w.heap.size + 1) 5 i0 (.int .u8 0) 1 1 Try.underlying40 hi0 hi1 hi2 hi3 rfl (by decide) _ _ _ rfl hO7 ⟨g7b, 0, none⟩ 2 2 ((wd x2).map (Value.int .u8)) rfl ?zl hnw7 (one_u8 _) ?zm ?zb ?zs ?_))
                case zl => rw [List.length_map]; rfl
                case zm => unfold maxLen; omega
                case zb => omega
                case zs => exact hs7
                intro v' w8 hown2 hgrow _ hat
                have hG : Gr wr w8 v9 v' := (Gr.kp (g5.trans g7) v9).trans ⟨hgrow, hat.imp id (fun e => ⟨_, e, Nat.le_refl _⟩)⟩
                have hO8 : Own w8 (w.heap.size + 1) v' (XS ++ [x0 % 256] ++ opB (x0, x1, x2, x3, x4) 2) := by rw [e9]; exact own_app rfl hown2
                have z18 := hG.cell hne z1
                have z28 := hG.cell hne z2
                have s68 : H5c w8 B6 (.int .i64 x0) (.int .i64 x1) (.int .i64 x2) (.int .i64 x3) (.int .i64 x4) := H5c.gr s6 hG hn6
                have hn68 := hG.ne hn6 s6.lt
                have kp8 : Kp w w8 := hG.kp0 kp (fun g hg => by have := hob g hg; omega)
                have hs8 : (w.heap.size + 1) ≤ w8.heap.size := Nat.le_trans hb9 hG.size
                clear hown2 hgrow hat hG hO7 hnw7 hO hob hne z1 z2 s6 hn6 kp g5 g7 h2 ho9 hg7 hs7 p0 p1 p2 p3 p4 e9 hl9
                go_wp2
                exact ⟨⟨2, v', Or.inr (Or.inr (Or.inl ⟨rfl, rfl⟩)), rfl, by have := HG.out; omega, hO8, z18, z28, s68, hn68, kp8, hs8⟩, by decide⟩
              · obtain rfl : U = 1 := by omega
                have hH := HU.out
                rw [show opB (x0, x1, x2, x3, x4) 1 = opB (x0, x1, x2, x3, x4) (opN x0).toNat from by rw [← hH.1]; rfl] at hO
                have hl9 : (XS ++ [x0 % 256] ++ opB (x0, x1, x2, x3, x4) (opN x0).toNat).length ≤ 30000 := by
                  rw [List.length_append, List.length_append, opB_len _ _ (by have := opN_b x0; omega)]
                  have := opN_b x0
                  have := hH.2.2.1
                  simp
                  omega
                have hob := own_block hO
                obtain ⟨p0, p1, p2, p3, p4, -⟩ := id s6
                by_cases cn : x0 = 1 ∨ x0 = 12
                · have HL : Hid (lnB (x0, x1, x2, x3, x4) = [x0 % 256] ++ opB (x0, x1, x2, x3, x4) (opN x0).toNat ++ wd x4) := by show _ = _; unfold lnB; rw [if_pos cn]
                  have h2 := two_ x4 wr hH.2.1.2.2.2
                  obtain ⟨ZS, hZS⟩ : ∃ ZS, ZS = XS ++ [x0 % 256] ++ opB (x0, x1, x2, x3, x4) (opN x0).toNat := ⟨_, rfl⟩
                  rw [← hZS] at hO hl9
                  have HZ : Hid (ZS = XS ++ [x0 % 256] ++ opB (x0, x1, x2, x3, x4) (opN x0).toNat) := hZS
                  have HF := hH.2.2.2.1
                  have hne : v9.ownBlock ≠ some w.heap.size := fun e => by have := hob _ e; omega
                  have hkpW : w.heap.size ≤ w.heap.size + 1 := by omega
                  have HJ : Hid (i < M) := hH.2.2.2.2
                  rcases cn with rfl | rfl
                  all_goals (
                    clear hZS hH HU
                    go_wp2_with (first | (go_at_call 32; refine (hop _).mono ?_; rintro e w' ⟨rfl, hw'⟩; obtain rfl := hw'.symm; clear hw') | (go_at_call 30; refine h2.mono ?_; rintro e w7 ⟨g7b, rfl, hg7, c7, g7⟩; have hO7 : w7.ownsRow (w.heap.size + 1) 5 1 v9 (ZS).length ((ZS).map (Value.int .u8)) := Own.kp hO g7; have hnw7 := arr_news c7; have hs7 := (Nat.le_trans hb9 (Below.size g7)); clear c7) | (at_builtin; refine wpList_append_own_at _ rfl _ _ 40 rfl (w.heap.size + 1) 5 i0 (.int .u8 0) 1 1 Try.underlying40 hi0 hi1 hi2 hi3 rfl (by decide) _ _ _ rfl hO7 ⟨g7b, 0, none⟩ 2 2 ((wd x4).map (Value.int .u8)) rfl ?zl hnw7 (one_u8 _) ?zm ?zb ?zs ?_))
                    case zl => rw [List.length_map]; rfl
                    case zm => unfold maxLen; omega
                    case zb => omega
                    case zs => exact hs7
                    intro v' w8 hown2 hgrow _ hat
                    have hG : Gr wr w8 v9 v' := (Gr.kp g7 v9).trans ⟨hgrow, hat.imp id (fun e => ⟨_, e, Nat.le_refl _⟩)⟩
                    have hO8 : Own w8 (w.heap.size + 1) v' (ZS ++ wd x4) := own_app rfl hown2
                    have z18 := hG.cell hne z1
                    have z28 := hG.cell hne z2
                    have kp8 : Kp w w8 := hG.kp0 kp (fun g hg => by have := hob g hg; omega)
                    have hs8 : (w.heap.size + 1) ≤ w8.heap.size := Nat.le_trans hb9 hG.size
                    have e9 : P2 ++ (L.take (i + 1)).flatMap lnB = ZS ++ wd x4 := by rw [HF, HL.out, HZ.out]; simp [List.append_assoc, HXS.out]
                    clear hown2 hgrow hat hG hO7 hnw7 hO hob hne z1 z2 kp g7 h2 hg7 hs7 s6 p0 p1 p2 p3 p4 hop hl9
                    go_wp2
                    have hJ : i < M := HJ.out
                    exact ⟨⟨i + 1, v', by go_num, hJ, rfl, by rw [e9]; exact hO8, z18, z28, kp8, hs8⟩, by simp [intOf]; omega⟩)
                · have HL : Hid (lnB (x0, x1, x2, x3, x4) = [x0 % 256] ++ opB (x0, x1, x2, x3, x4) (opN x0).toNat) := by show _ = _; unfold lnB; rw [if_neg cn, List.append_nil]
                  have HF := hH.2.2.2.1
                  have e9 : P2 ++ (L.take (i + 1)).flatMap lnB = XS ++ [x0 % 256] ++ opB (x0, x1, x2, x3, x4) (opN x0).toNat := by rw [HF, HL.out]; simp [List.append_assoc, HXS.out]
                  have d1 : (x0 == 1) = false := beq_eq_false_iff_ne.2 (fun h => cn (Or.inl h))
                  have d2 : (x0 == 12) = false := beq_eq_false_iff_ne.2 (fun h => cn (Or.inr h))
                  have HJ : Hid (i < M) := hH.2.2.2.2
                  clear cn hH hl9 HU hob
                  go_wp2_with (first | (go_at_call 32; refine (hop _).mono ?_; rintro e w' ⟨rfl, hw'⟩; obtain rfl := hw'.symm; clear hw'))
                  have hJ : i < M := HJ.out
                  exact ⟨⟨i + 1, v9, by go_num, hJ, rfl, by rw [e9]; exact hO, z1, z2, kp, hb9⟩, by simp [intOf]; omega⟩
            · by_cases cu : (2 : Int) < U
              · have h9 := HU.out
                have ho9 := roperand2_ x0 x1 x2 x3 x4
                have h2 := fun W => two_ x3 W h9.2.1.2.2.1
                have hl9 : (XS ++ [x0 % 256] ++ opB (x0, x1, x2, x3, x4) 2).length ≤ 30000 := by
                  have := h9.2.2.1
                  rw [List.length_append, List.length_append, opB_len _ _ (by decide)]
                  simp
                  omega
                have e9 : XS ++ [x0 % 256] ++ opB (x0, x1, x2, x3, x4) 3 = XS ++ [x0 % 256] ++ opB (x0, x1, x2, x3, x4) 2 ++ wd x3 := by simp [opB, List.append_assoc]
                obtain ⟨ZS, hZS⟩ : ∃ ZS, ZS = XS ++ [x0 % 256] ++ opB (x0, x1, x2, x3, x4) 2 := ⟨_, rfl⟩
                rw [← hZS] at hO hl9 e9
                have hob := own_block hO
                have hne : v9.ownBlock ≠ some w.heap.size := fun e => by have := hob _ e; omega
                have HG : Hid ((2 : Int) < U) := cu
                obtain ⟨p0, p1, p2, p3, p4, -⟩ := id s6
                clear h9 hZS
                go_wp2_with (first | (go_at_call 32; refine (hop _).mono ?_; rintro e w' ⟨rfl, hw'⟩; obtain rfl := hw'.symm; clear hw') | (go_at_call 33; refine (ho9 _).mono ?_; rintro e w5 ⟨rfl, g5⟩) | (go_at_call 30; refine (h2 _).mono ?_; rintro e w7 ⟨g7b, rfl, hg7, c7, g7⟩; have hO7 : w7.ownsRow (w.heap.size + 1) 5 1 v9 (ZS).length ((ZS).map (Value.int .u8)) := Own.kp hO (g5.trans g7); have hnw7 := arr_news c7; have hs7 := (Nat.le_trans hb9 (Below.size (g5.trans g7))); clear c7) | (at_builtin; refine wpList_append_own_at _ rfl _ _ 40 rfl (w.heap.size + 1) 5 i0 (.int .u8 0) 1 1 Try.underlying40 hi0 hi1 hi2 hi3 rfl (by decide) _ _ _ rfl hO7 ⟨g7b, 0, none⟩ 2 2 ((wd x3).map (Value.int .u8)) rfl ?zl hnw7 (one_u8 _) ?zm ?zb ?zs ?_))
                case zl => rw [List.length_map]; rfl
                case zm => unfold maxLen; omega
                case zb => omega
                case zs => exact hs7
                intro v' w8 hown2 hgrow _ hat
                have hG : Gr wr w8 v9 v' := (Gr.kp (g5.trans g7) v9).trans ⟨hgrow, hat.imp id (fun e => ⟨_, e, Nat.le_refl _⟩)⟩
                have hO8 : Own w8 (w.heap.size + 1) v' (XS ++ [x0 % 256] ++ opB (x0, x1, x2, x3, x4) 3) := by rw [e9]; exact own_app rfl hown2
                have z18 := hG.cell hne z1
                have z28 := hG.cell hne z2
                have s68 : H5c w8 B6 (.int .i64 x0) (.int .i64 x1) (.int .i64 x2) (.int .i64 x3) (.int .i64 x4) := H5c.gr s6 hG hn6
                have hn68 := hG.ne hn6 s6.lt
                have kp8 : Kp w w8 := hG.kp0 kp (fun g hg => by have := hob g hg; omega)
                have hs8 : (w.heap.size + 1) ≤ w8.heap.size := Nat.le_trans hb9 hG.size
                clear hown2 hgrow hat hG hO7 hnw7 hO hob hne z1 z2 s6 hn6 kp g5 g7 h2 ho9 hg7 hs7 p0 p1 p2 p3 p4 e9 hl9
                go_wp2
                exact ⟨⟨3, v', Or.inr (Or.inr (Or.inr ⟨rfl, rfl⟩)), rfl, by have := HG.out; omega, hO8, z18, z28, s68, hn68, kp8, hs8⟩, by decide⟩
              · obtain rfl : U = 2 := by omega
                have hH := HU.out
                rw [show opB (x0, x1, x2, x3, x4) 2 = opB (x0, x1, x2, x3, x4) (opN x0).toNat from by rw [← hH.1]; rfl] at hO
                have hl9 : (XS ++ [x0 % 256] ++ opB (x0, x1, x2, x3, x4) (opN x0).toNat).length ≤ 30000 := by
                  rw [List.length_append, List.length_append, opB_len _ _ (by have := opN_b x0; omega)]
                  have := opN_b x0
                  have := hH.2.2.1
                  simp
                  omega
                have hob := own_block hO
                obtain ⟨p0, p1, p2, p3, p4, -⟩ := id s6
                by_cases cn : x0 = 1 ∨ x0 = 12
                · have HL : Hid (lnB (x0, x1, x2, x3, x4) = [x0 % 256] ++ opB (x0, x1, x2, x3, x4) (opN x0).toNat ++ wd x4) := by show _ = _; unfold lnB; rw [if_pos cn]
                  have h2 := two_ x4 wr hH.2.1.2.2.2
                  obtain ⟨ZS, hZS⟩ : ∃ ZS, ZS = XS ++ [x0 % 256] ++ opB (x0, x1, x2, x3, x4) (opN x0).toNat := ⟨_, rfl⟩
                  rw [← hZS] at hO hl9
                  have HZ : Hid (ZS = XS ++ [x0 % 256] ++ opB (x0, x1, x2, x3, x4) (opN x0).toNat) := hZS
                  have HF := hH.2.2.2.1
                  have hne : v9.ownBlock ≠ some w.heap.size := fun e => by have := hob _ e; omega
                  have hkpW : w.heap.size ≤ w.heap.size + 1 := by omega
                  have HJ : Hid (i < M) := hH.2.2.2.2
                  rcases cn with rfl | rfl
                  all_goals (
                    clear hZS hH HU
                    go_wp2_with (first | (go_at_call 32; refine (hop _).mono ?_; rintro e w' ⟨rfl, hw'⟩; obtain rfl := hw'.symm; clear hw') | (go_at_call 30; refine h2.mono ?_; rintro e w7 ⟨g7b, rfl, hg7, c7, g7⟩; have hO7 : w7.ownsRow (w.heap.size + 1) 5 1 v9 (ZS).length ((ZS).map (Value.int .u8)) := Own.kp hO g7; have hnw7 := arr_news c7; have hs7 := (Nat.le_trans hb9 (Below.size g7)); clear c7) | (at_builtin; refine wpList_append_own_at _ rfl _ _ 40 rfl (w.heap.size + 1) 5 i0 (.int .u8 0) 1 1 Try.underlying40 hi0 hi1 hi2 hi3 rfl (by decide) _ _ _ rfl hO7 ⟨g7b, 0, none⟩ 2 2 ((wd x4).map (Value.int .u8)) rfl ?zl hnw7 (one_u8 _) ?zm ?zb ?zs ?_))
                    case zl => rw [List.length_map]; rfl
                    case zm => unfold maxLen; omega
                    case zb => omega
                    case zs => exact hs7
                    intro v' w8 hown2 hgrow _ hat
                    have hG : Gr wr w8 v9 v' := (Gr.kp g7 v9).trans ⟨hgrow, hat.imp id (fun e => ⟨_, e, Nat.le_refl _⟩)⟩
                    have hO8 : Own w8 (w.heap.size + 1) v' (ZS ++ wd x4) := own_app rfl hown2
                    have z18 := hG.cell hne z1
                    have z28 := hG.cell hne z2
                    have kp8 : Kp w w8 := hG.kp0 kp (fun g hg => by have := hob g hg; omega)
                    have hs8 : (w.heap.size + 1) ≤ w8.heap.size := Nat.le_trans hb9 hG.size
                    have e9 : P2 ++ (L.take (i + 1)).flatMap lnB = ZS ++ wd x4 := by rw [HF, HL.out, HZ.out]; simp [List.append_assoc, HXS.out]
                    clear hown2 hgrow hat hG hO7 hnw7 hO hob hne z1 z2 kp g7 h2 hg7 hs7 s6 p0 p1 p2 p3 p4 hop hl9
                    go_wp2
                    have hJ : i < M := HJ.out
                    exact ⟨⟨i + 1, v', by go_num, hJ, rfl, by rw [e9]; exact hO8, z18, z28, kp8, hs8⟩, by simp [intOf]; omega⟩)
                · have HL : Hid (lnB (x0, x1, x2, x3, x4) = [x0 % 256] ++ opB (x0, x1, x2, x3, x4) (opN x0).toNat) := by show _ = _; unfold lnB; rw [if_neg cn, List.append_nil]
                  have HF := hH.2.2.2.1
                  have e9 : P2 ++ (L.take (i + 1)).flatMap lnB = XS ++ [x0 % 256] ++ opB (x0, x1, x2, x3, x4) (opN x0).toNat := by rw [HF, HL.out]; simp [List.append_assoc, HXS.out]
                  have d1 : (x0 == 1) = false := beq_eq_false_iff_ne.2 (fun h => cn (Or.inl h))
                  have d2 : (x0 == 12) = false := beq_eq_false_iff_ne.2 (fun h => cn (Or.inr h))
                  have HJ : Hid (i < M) := hH.2.2.2.2
                  clear cn hH hl9 HU hob
                  go_wp2_with (first | (go_at_call 32; refine (hop _).mono ?_; rintro e w' ⟨rfl, hw'⟩; obtain rfl := hw'.symm; clear hw'))
                  have hJ : i < M := HJ.out
                  exact ⟨⟨i + 1, v9, by go_num, hJ, rfl, by rw [e9]; exact hO, z1, z2, kp, hb9⟩, by simp [intOf]; omega⟩
            · have cu : ¬ ((3 : Int) < U) := by omega
              obtain rfl : U = 3 := by omega
              have hH := HU.out
              rw [show opB (x0, x1, x2, x3, x4) 3 = opB (x0, x1, x2, x3, x4) (opN x0).toNat from by rw [← hH.1]; rfl] at hO
              have hl9 : (XS ++ [x0 % 256] ++ opB (x0, x1, x2, x3, x4) (opN x0).toNat).length ≤ 30000 := by
                rw [List.length_append, List.length_append, opB_len _ _ (by have := opN_b x0; omega)]
                have := opN_b x0
                have := hH.2.2.1
                simp
                omega
              have hob := own_block hO
              obtain ⟨p0, p1, p2, p3, p4, -⟩ := id s6
              by_cases cn : x0 = 1 ∨ x0 = 12
              · have HL : Hid (lnB (x0, x1, x2, x3, x4) = [x0 % 256] ++ opB (x0, x1, x2, x3, x4) (opN x0).toNat ++ wd x4) := by show _ = _; unfold lnB; rw [if_pos cn]
                have h2 := two_ x4 wr hH.2.1.2.2.2
                obtain ⟨ZS, hZS⟩ : ∃ ZS, ZS = XS ++ [x0 % 256] ++ opB (x0, x1, x2, x3, x4) (opN x0).toNat := ⟨_, rfl⟩
                rw [← hZS] at hO hl9
                have HZ : Hid (ZS = XS ++ [x0 % 256] ++ opB (x0, x1, x2, x3, x4) (opN x0).toNat) := hZS
                have HF := hH.2.2.2.1
                have hne : v9.ownBlock ≠ some w.heap.size := fun e => by have := hob _ e; omega
                have hkpW : w.heap.size ≤ w.heap.size + 1 := by omega
                have HJ : Hid (i < M) := hH.2.2.2.2
                rcases cn with rfl | rfl
                all_goals (
                  clear hZS hH HU
                  go_wp2_with (first | (go_at_call 32; refine (hop _).mono ?_; rintro e w' ⟨rfl, hw'⟩; obtain rfl := hw'.symm; clear hw') | (go_at_call 30; refine h2.mono ?_; rintro e w7 ⟨g7b, rfl, hg7, c7, g7⟩; have hO7 : w7.ownsRow (w.heap.size + 1) 5 1 v9 (ZS).length ((ZS).map (Value.int .u8)) := Own.kp hO g7; have hnw7 := arr_news c7; have hs7 := (Nat.le_trans hb9 (Below.size g7)); clear c7) | (at_builtin; refine wpList_append_own_at _ rfl _ _ 40 rfl (w.heap.size + 1) 5 i0 (.int .u8 0) 1 1 Try.underlying40 hi0 hi1 hi2 hi3 rfl (by decide) _ _ _ rfl hO7 ⟨g7b, 0, none⟩ 2 2 ((wd x4).map (Value.int .u8)) rfl ?zl hnw7 (one_u8 _) ?zm ?zb ?zs ?_))
                  case zl => rw [List.length_map]; rfl
                  case zm => unfold maxLen; omega
                  case zb => omega
                  case zs => exact hs7
                  intro v' w8 hown2 hgrow _ hat
                  have hG : Gr wr w8 v9 v' := (Gr.kp g7 v9).trans ⟨hgrow, hat.imp id (fun e => ⟨_, e, Nat.le_refl _⟩)⟩
                  have hO8 : Own w8 (w.heap.size + 1) v' (ZS ++ wd x4) := own_app rfl hown2
                  have z18 := hG.cell hne z1
                  have z28 := hG.cell hne z2
                  have kp8 : Kp w w8 := hG.kp0 kp (fun g hg => by have := hob g hg; omega)
                  have hs8 : (w.heap.size + 1) ≤ w8.heap.size := Nat.le_trans hb9 hG.size
                  have e9 : P2 ++ (L.take (i + 1)).flatMap lnB = ZS ++ wd x4 := by rw [HF, HL.out, HZ.out]; simp [List.append_assoc, HXS.out]
                  clear hown2 hgrow hat hG hO7 hnw7 hO hob hne z1 z2 kp g7 h2 hg7 hs7 s6 p0 p1 p2 p3 p4 hop hl9
                  go_wp2
                  have hJ : i < M := HJ.out
                  exact ⟨⟨i + 1, v', by go_num, hJ, rfl, by rw [e9]; exact hO8, z18, z28, kp8, hs8⟩, by simp [intOf]; omega⟩)
              · have HL : Hid (lnB (x0, x1, x2, x3, x4) = [x0 % 256] ++ opB (x0, x1, x2, x3, x4) (opN x0).toNat) := by show _ = _; unfold lnB; rw [if_neg cn, List.append_nil]
                have HF := hH.2.2.2.1
                have e9 : P2 ++ (L.take (i + 1)).flatMap lnB = XS ++ [x0 % 256] ++ opB (x0, x1, x2, x3, x4) (opN x0).toNat := by rw [HF, HL.out]; simp [List.append_assoc, HXS.out]
                have d1 : (x0 == 1) = false := beq_eq_false_iff_ne.2 (fun h => cn (Or.inl h))
                have d2 : (x0 == 12) = false := beq_eq_false_iff_ne.2 (fun h => cn (Or.inr h))
                have HJ : Hid (i < M) := hH.2.2.2.2
                clear cn hH hl9 HU hob
                go_wp2_with (first | (go_at_call 32; refine (hop _).mono ?_; rintro e w' ⟨rfl, hw'⟩; obtain rfl := hw'.symm; clear hw'))
                have hJ : i < M := HJ.out
                exact ⟨⟨i + 1, v9, by go_num, hJ, rfl, by rw [e9]; exact hO, z1, z2, kp, hb9⟩, by simp [intOf]; omega⟩
        · rw [show L.take i = L from List.take_of_length_le (by omega)] at hO
          have hE : P2 ++ L.flatMap lnB = enc V ps L := by
            rw [HP2.out, hN, hM]
            unfold enc
            simp [List.append_assoc]
          rw [hE] at hO
          have hO2 := hO.mono (Nat.le_succ w.heap.size)
          clear hx hy hw hN hM hln hleni HX hE hO hob hne
          go_wp2
          exact bodyPost_ret (v := v9) (by simp [results, Try.results11, go_sem]) rfl ⟨_, rfl, hO2, kp⟩
end X7
end Go.Proofs.Ytipedmnipolmeaa
namespace Go.Proofs.Ytipedmnipolmeaa
open Go.RowKit
open Go
namespace X7
set_option linter.unusedVariables false
open B8
theorem kb_trans {g : Nat} {a b c : World} (h : Kb g a b) (k : Kb g b c) : Kb g a c :=
  ⟨k.1.trans h.1, k.2.1.trans h.2.1, k.2.2.1.trans h.2.2.1, Nat.le_trans h.2.2.2.1 k.2.2.2.1, fun i hi hne => (k.2.2.2.2 i (Nat.lt_of_lt_of_le hi h.2.2.2.1) hne).trans (h.2.2.2.2 i hi hne)⟩
theorem kb_kp {g : Nat} {a b : World} (k : Kp a b) : Kb g a b := ⟨k.os, k.tape, k.output, k.size, fun i hi _ => Below.block k i hi⟩
/-- the bytes that lie in block g -/
def BY (w : World) (g : Nat) (xs : List Int) : Prop := ∀ j, j < xs.length → w.cell? ⟨g, j, none⟩ = some (.int .u8 (xs.getD j 0))
theorem BY.kb {w w' : World} {g br : Nat} {xs : List Int} (h : BY w g xs) (k : Kb br w w') (hne : g ≠ br) : BY w' g xs := fun j hj => k.arr hne (h j hj)
theorem BY.kp {w w' : World} {g : Nat} {xs : List Int} (h : BY w g xs) (k : Kp w w') : BY w' g xs := fun j hj => kkeep k (h j hj)
/-- from place at on the bytes are ys and then rs -/
def DR (xs : List Int) (at_ : Nat) (ys rs : List Int) : Prop := xs.drop at_ = ys ++ rs
theorem DR.le {xs ys rs : List Int} {a : Nat} (h : DR xs a ys rs) (h0 : 0 < ys.length) : a + ys.length ≤ xs.length := by
  have e := congrArg List.length h
  rw [List.length_drop, List.length_append] at e
  omega
theorem DR.at {xs ys rs : List Int} {a : Nat} (h : DR xs a ys rs) (j : Nat) (hj : j < ys.length) : xs.getD (a + j) 0 = ys.getD j 0 := by
  have e : (xs.drop a).getD j 0 = (ys ++ rs).getD j 0 := by rw [h]
  rw [List.getD, List.getD, List.getElem?_drop, List.getElem?_append_left hj] at e
  exact e
theorem DR.next {xs ys zs rs : List Int} {a : Nat} (h : DR xs a (ys ++ zs) rs) : DR xs (a + ys.length) zs rs := by
  unfold DR at h ⊢
  rw [← List.drop_drop, h, List.append_assoc, List.drop_left]
theorem DR.cut {xs ys zs rs : List Int} {a : Nat} (h : DR xs a (ys ++ zs) rs) : DR xs a ys (zs ++ rs) := by
  unfold DR at h ⊢
  rw [h, List.append_assoc]
theorem DR.rest {xs ys zs rs : List Int} {a : Nat} (h : DR xs a ys (zs ++ rs)) : DR xs (a + ys.length) zs rs := by
  unfold DR at h ⊢
  rw [← List.drop_drop, h, List.drop_left]
theorem DR.zero {xs ys rs : List Int} (h : xs = ys ++ rs) : DR xs 0 ys rs := by unfold DR; rw [List.drop_zero]; exact h
/-- the number of two bytes -/
theorem wd_back (n : Int) (hn : -32768 ≤ n ∧ n < 32768) : IntKind.i16.wrap (n % 256 + 256 * (n / 256 % 256)) = n := by
  have h : ∀ m : Int, IntKind.i16.wrap m = (m + 32768) % 65536 - 32768 := fun m => by
    simp [IntKind.wrap, IntKind.bits, IntKind.signed]
    split <;> omega
  rw [h]
  omega
set_option maxRecDepth 20000 in
set_option maxHeartbeats 1000000 in
theorem part_ (br g N c a s : Nat) (si : Int) (hsi : si = (s : Int)) (hs : 0 < s) (hle : a + s ≤ N) (hNc : N ≤ c) (hN : N ≤ 1048576) (w : World) (h : H3c w br (.slice (some ⟨g, 0, none⟩) N c) (.int .i64 (a : Int)) (.bool false)) :
    Calls Try.prog 67 #[.pointer (some ⟨br, 0, none⟩), .int .i64 si] w fun e w' => e = .returned (.slice (some ⟨g, a, none⟩) s s) ∧ H3c w' br (.slice (some ⟨g, 0, none⟩) N c) (.int .i64 ((a : Int) + si)) (.bool false) ∧ Kb br w w' := by
  have hsl := B8.slm g 0 a s N c (by omega) hs
  rw [Nat.zero_add, ← hsi] at hsl
  have t1 : ¬ ((N : Int) - (a : Int) < si) := by omega
  have hsi9 : 0 ≤ si ∧ si ≤ 1048576 := by omega
  have ha9 : (a : Int) ≤ 1048576 := by omega
  obtain ⟨b0, b1, b2, b3, b4, b5⟩ := id h
  clear hsi hs hle hNc
  go_enter Try.func67, Try.ntmps67
  go_upto_region 1 with fail
  refine Fq.wp_region_grow (by kernel_rfl) (by kernel_rfl) (fun ι _ G hG hall => ?_)
  have cc0 : ∀ n, (G n).cell? ⟨br, 0, none⟩ = some (.slice (some ⟨g, 0, none⟩) N c) := fun n => Fq.gkeep (hG n) b0
  have cc1 : ∀ n, (G n).cell? ⟨br, 1, none⟩ = some (.int .i64 (a : Int)) := fun n => Fq.gkeep (hG n) b1
  have cc2 : ∀ n, (G n).cell? ⟨br, 2, none⟩ = some (.bool false) := fun n => Fq.gkeep (hG n) b2
  repeat (go_big_quiet_step (first | fail))
  refine wpQuiet_nil ?_
  rintro _ ⟨nq, rfl⟩
  have gq : Kp w (G nq) := hG nq
  clear cc0 cc1 cc2 hall hG
  have h2 := H3c.keep h gq
  generalize G nq = W at gq h2 ⊢
  clear b0 b1 b2 b3 b4 b5
  obtain ⟨b0, b1, b2, b3, b4, b5⟩ := id h2
  go_upto_region 6 with fail
  have h3 : H3c (W.setCell ⟨br, 1, none⟩ (.int .i64 ((a : Int) + si))) br (.slice (some ⟨g, 0, none⟩) N c) (.int .i64 ((a : Int) + si)) (.bool false) := H3c.set1 h2 _
  have kb : Kb br w (W.setCell ⟨br, 1, none⟩ (.int .i64 ((a : Int) + si))) := (kb_kp gq).setCell 1 _
  generalize (W.setCell ⟨br, 1, none⟩ (.int .i64 ((a : Int) + si))) = W6 at h3 kb ⊢
  clear b0 b1 b2 b3 b4 b5
  obtain ⟨b0, b1, b2, b3, b4, b5⟩ := id h3
  have e9 : (a : Int) + si - si = (a : Int) := by omega
  refine Fq.wp_region_grow (by kernel_rfl) (by kernel_rfl) (fun ι _ G hG hall => ?_)
  have cc0 : ∀ n, (G n).cell? ⟨br, 0, none⟩ = some (.slice (some ⟨g, 0, none⟩) N c) := fun n => Fq.gkeep (hG n) b0
  have cc1 : ∀ n, (G n).cell? ⟨br, 1, none⟩ = some (.int .i64 ((a : Int) + si)) := fun n => Fq.gkeep (hG n) b1
  repeat (go_big_quiet_step (first | fail))
  refine wpQuiet_nil ?_
  rintro _ ⟨nq, rfl⟩
  have gq : Kp W6 (G nq) := hG nq
  clear cc0 cc1 hall hG
  go_wp2
  exact bodyPost_ret (v := .slice (some ⟨g, a, none⟩) s s) (by simp [results, Try.results67, go_sem]) rfl ⟨rfl, H3c.keep h3 gq, kb_trans kb (kb_kp gq)⟩
set_option maxRecDepth 20000 in
set_option maxHeartbeats 400000 in
theorem held_ (p : Option Addr) (z lo hi sz : Int) (hz : lo ≤ z ∧ z ≤ hi) (w : World) :
    Calls Try.prog 68 #[.pointer p, .int .i64 z, .agg #[.int .i64 lo, .int .i64 hi], .int .i64 sz] w fun e w' => e = .returned (.int .i64 z) ∧ Kp w w' := by
  have hh := hold_ lo hi z (w.alloc (.cells #[.int .i64 lo, .int .i64 hi] 54))
  rw [decide_eq_true hz.1, decide_eq_true hz.2] at hh
  have kw : Kp w (w.alloc (.cells #[.int .i64 lo, .int .i64 hi] 54)) := (Kp.refl w).alloc _
  clear hz
  go_enter Try.func68, Try.ntmps68
  go_wp2_with (first | (go_at_call 19; refine hh.mono ?_; rintro e w1 ⟨rfl, g1⟩))
  exact bodyPost_ret (v := .int .i64 z) (by simp [results, Try.results68, go_sem]) rfl ⟨rfl, kw.trans g1⟩
set_option maxRecDepth 20000 in
set_option maxHeartbeats 1000000 in
theorem small_ (br g N c a : Nat) (xs rs : List Int) (z : Int) (hzb : 0 ≤ z ∧ z < 256) (lo hi : Int) (hz : lo ≤ z ∧ z ≤ hi) (hd : DR xs a [z] rs) (hxN : N = xs.length) (hNc : N ≤ c) (hN : N ≤ 1048576) (hne : g ≠ br) (w : World) (h : H3c w br (.slice (some ⟨g, 0, none⟩) N c) (.int .i64 (a : Int)) (.bool false)) (hb : BY w g xs) :
    Calls Try.prog 53 #[.pointer (some ⟨br, 0, none⟩), .agg #[.int .i64 lo, .int .i64 hi]] w fun e w' => e = .returned (.int .i64 z) ∧ H3c w' br (.slice (some ⟨g, 0, none⟩) N c) (.int .i64 ((a + 1 : Nat) : Int)) (.bool false) ∧ Kb br w w' := by
  have hle := hd.le (by simp)
  have kA : Kp w (w.alloc (.cells #[.int .i64 lo, .int .i64 hi] 54)) := (Kp.refl w).alloc _
  have h1 := H3c.keep h kA
  have hpt := part_ br g N c a 1 1 rfl (by decide) (by simp at hle; omega) hNc hN (w.alloc (.cells #[.int .i64 lo, .int .i64 hi] 54)) h1
  have hhe := held_ (some ⟨br, 0, none⟩) z lo hi 1 hz
  have q0 : w.cell? ⟨g, a, none⟩ = some (.int .u8 z) := by
    have e := hb a (by simp at hle; omega)
    have e2 := hd.at 0 (by simp)
    rw [Nat.add_zero] at e2
    rw [e2] at e
    exact e
  have q0' := kkeep kA q0
  have y0 : (w.alloc (.cells #[.int .i64 lo, .int .i64 hi] 54)).cell? ⟨w.heap.size, 0, none⟩ = some (.int .i64 lo) := by simp [go_sem]
  have y1 : (w.alloc (.cells #[.int .i64 lo, .int .i64 hi] 54)).cell? ⟨w.heap.size, 1, none⟩ = some (.int .i64 hi) := by simp [go_sem]
  have hbr : w.heap.size ≠ br := by have := h.lt; omega
  have ea : (a : Int) + 1 = ((a + 1 : Nat) : Int) := by omega
  clear hz hd hxN hNc hN hle h hb
  go_enter Try.func53, Try.ntmps53
  go_upto_region 2 with (first | (go_at_call 67; refine hpt.mono ?_; rintro e w1 ⟨rfl, r1, k1⟩; replace q0' := k1.arr hne q0'; replace y0 := k1.arr hbr y0; replace y1 := k1.arr hbr y1; obtain ⟨b0, b1, b2, b3, b4, b5⟩ := id r1))
  go_upto_region 4 with fail
  generalize w.heap.size = wb at y0 y1 ⊢
  refine Fq.wp_region_grow (by kernel_rfl) (by kernel_rfl) (fun ι _ G hG hall => ?_)
  have cc0 : ∀ n, (G n).cell? ⟨wb, 0, none⟩ = some (.int .i64 lo) := fun n => Fq.gkeep (hG n) y0
  have cc1 : ∀ n, (G n).cell? ⟨wb, 1, none⟩ = some (.int .i64 hi) := fun n => Fq.gkeep (hG n) y1
  have cc2 : ∀ n, (G n).cell? ⟨g, a, none⟩ = some (.int .u8 z) := fun n => Fq.gkeep (hG n) q0'
  repeat (go_big_quiet_step (first | (go_at_call 68; exact (hhe _).mono (fun e w' h => ⟨h.1, hall _ (Fq.gtrans (hG _) h.2)⟩))))
  refine wpQuiet_nil ?_
  rintro _ ⟨nq, rfl⟩
  have gq : Kp w1 (G nq) := hG nq
  clear cc0 cc1 cc2 hall hG
  go_wp2
  rw [ea] at r1
  exact bodyPost_ret (v := .int .i64 z) (by simp [results, Try.results53, go_sem]) rfl ⟨rfl, r1.keep gq, kb_trans (kb_kp kA) (kb_trans k1 (kb_kp gq))⟩
set_option maxRecDepth 20000 in
set_option maxHeartbeats 1000000 in
theorem word_ (br g N c a : Nat) (xs rs : List Int) (z : Int) (hzb : -32768 ≤ z ∧ z < 32768) (lo hi : Int) (hz : lo ≤ z ∧ z ≤ hi) (hd : DR xs a (wd z) rs) (hxN : N = xs.length) (hNc : N ≤ c) (hN : N ≤ 1048576) (hne : g ≠ br) (w : World) (h : H3c w br (.slice (some ⟨g, 0, none⟩) N c) (.int .i64 (a : Int)) (.bool false)) (hb : BY w g xs) :
    Calls Try.prog 54 #[.pointer (some ⟨br, 0, none⟩), .agg #[.int .i64 lo, .int .i64 hi]] w fun e w' => e = .returned (.int .i64 z) ∧ H3c w' br (.slice (some ⟨g, 0, none⟩) N c) (.int .i64 ((a + 2 : Nat) : Int)) (.bool false) ∧ Kb br w w' := by
  have hle := hd.le (by rw [wd_len]; decide)
  have kA : Kp w (w.alloc (.cells #[.int .i64 lo, .int .i64 hi] 54)) := (Kp.refl w).alloc _
  have h1 := H3c.keep h kA
  have hpt := part_ br g N c a 2 2 rfl (by decide) (by rw [wd_len] at hle; omega) hNc hN (w.alloc (.cells #[.int .i64 lo, .int .i64 hi] 54)) h1
  have hhe := held_ (some ⟨br, 0, none⟩) z lo hi 2 hz
  have q0 : w.cell? ⟨g, a, none⟩ = some (.int .u8 (z % 256)) := by
    have e := hb a (by rw [wd_len] at hle; omega)
    have e2 := hd.at 0 (by rw [wd_len]; decide)
    rw [Nat.add_zero] at e2
    rw [e2] at e
    exact e
  have q1 : w.cell? ⟨g, a + 1, none⟩ = some (.int .u8 (z / 256 % 256)) := by
    have e := hb (a + 1) (by rw [wd_len] at hle; omega)
    have e2 := hd.at 1 (by rw [wd_len]; decide)
    rw [e2] at e
    exact e
  have q0' := kkeep kA q0
  have q1' := kkeep kA q1
  have hwb := wd_back z hzb
  have hor : bits .or .u16 (z % 256) (z / 256 % 256 * 256) = z % 256 + 256 * (z / 256 % 256) := by
    have h := u16_or (z % 256) (z / 256 % 256 * 256) (by omega) (by omega) (by omega) (by omega)
    rw [h]
    have h2 := B8.or_step (z % 256).toNat (z / 256 % 256).toNat 1 (by omega)
    rw [show (z / 256 % 256 * 256).toNat = (z / 256 % 256).toNat * 256 ^ 1 from by omega, h2]
    omega
  have B0 : 0 ≤ z % 256 ∧ z % 256 < 256 := by omega
  have B1 : 0 ≤ z / 256 % 256 ∧ z / 256 % 256 < 256 := by omega
  obtain ⟨Z0, hZ0⟩ : ∃ Z0, Z0 = z % 256 := ⟨_, rfl⟩
  obtain ⟨Z1, hZ1⟩ : ∃ Z1, Z1 = z / 256 % 256 := ⟨_, rfl⟩
  rw [← hZ0] at q0' B0 hor hwb
  rw [← hZ1] at q1' B1 hor hwb
  clear hZ0 hZ1 q0 q1
  have y0 : (w.alloc (.cells #[.int .i64 lo, .int .i64 hi] 54)).cell? ⟨w.heap.size, 0, none⟩ = some (.int .i64 lo) := by simp [go_sem]
  have y1 : (w.alloc (.cells #[.int .i64 lo, .int .i64 hi] 54)).cell? ⟨w.heap.size, 1, none⟩ = some (.int .i64 hi) := by simp [go_sem]
  have hbr : w.heap.size ≠ br := by have := h.lt; omega
  have ea : (a : Int) + 2 = ((a + 2 : Nat) : Int) := by omega
  clear hz hd hxN hNc hN hle h hb
  go_enter Try.func54, Try.ntmps54
  go_upto_region 2 with (first | (go_at_call 67; refine hpt.mono ?_; rintro e w1 ⟨rfl, r1, k1⟩; replace q0' := k1.arr hne q0'; replace q1' := k1.arr hne q1'; replace y0 := k1.arr hbr y0; replace y1 := k1.arr hbr y1; obtain ⟨b0, b1, b2, b3, b4, b5⟩ := id r1))
  go_upto_region 4 with fail
  generalize w.heap.size = wb at y0 y1 ⊢
  refine Fq.wp_region_grow (by kernel_rfl) (by kernel_rfl) (fun ι _ G hG hall => ?_)
  have cc0 : ∀ n, (G n).cell? ⟨wb, 0, none⟩ = some (.int .i64 lo) := fun n => Fq.gkeep (hG n) y0
  have cc1 : ∀ n, (G n).cell? ⟨wb, 1, none⟩ = some (.int .i64 hi) := fun n => Fq.gkeep (hG n) y1
  have cc2 : ∀ n, (G n).cell? ⟨g, a, none⟩ = some (.int .u8 Z0) := fun n => Fq.gkeep (hG n) q0'
  have cc3 : ∀ n, (G n).cell? ⟨g, a + 1, none⟩ = some (.int .u8 Z1) := fun n => Fq.gkeep (hG n) q1'
  repeat (go_big_quiet_step (first | (go_at_call 68; exact (hhe _).mono (fun e w' h => ⟨h.1, hall _ (Fq.gtrans (hG _) h.2)⟩))))
  refine wpQuiet_nil ?_
  rintro _ ⟨nq, rfl⟩
  have gq : Kp w1 (G nq) := hG nq
  clear cc0 cc1 cc2 cc3 hall hG
  go_wp2
  rw [ea] at r1
  exact bodyPost_ret (v := .int .i64 z) (by simp [results, Try.results54, go_sem]) rfl ⟨rfl, r1.keep gq, kb_trans (kb_kp kA) (kb_trans k1 (kb_kp gq))⟩
end X7
end Go.Proofs.Ytipedmnipolmeaa
namespace Go.Proofs.Ytipedmnipolmeaa
open Go.RowKit
open Go
namespace B8
theorem pow_le (k : Nat) (hk : k < 8) : 256 ^ k ≤ 72057594037927936 := by
  have : 256 ^ k ≤ 256 ^ 7 := Nat.pow_le_pow_right (by decide) (by omega)
  exact this
theorem or_word (B Y k : Nat) (hB : B < 256 ^ k) (hY : Y < 256) (hk : k < 8) : bits BinOp.or IntKind.u64 (B : Int) (IntKind.u64.wrap ((Y : Int) * 2 ^ (8 * k))) = ((B + Y * 256 ^ k : Nat) : Int) := by
  have e : (Y : Int) * 2 ^ (8 * k) = ((Y * 256 ^ k : Nat) : Int) := by
    rw [Int.natCast_mul, Int.natCast_pow, Int.pow_mul]; rfl
  have h1 := pow_le k hk
  have h2 : Y * 256 ^ k ≤ 255 * 72057594037927936 := Nat.mul_le_mul (by omega) h1
  rw [e, IntKind.wrap_u64, show ((Y * 256 ^ k : Nat) : Int) % 18446744073709551616 = ((Y * 256 ^ k : Nat) : Int) from by omega]
  rw [bits_or_u64_nat B (Y * 256 ^ k) (by omega) (by omega), or_step B Y k hB]
set_option maxRecDepth 20000 in
set_option maxHeartbeats 1000000 in
theorem number_ (p : Option Addr) (c : Nat) (xs : List Int) (w : World) (hx : Arr w p xs) (hl : xs.length = 8) (hw : Wb xs) : Calls Try.prog 76 #[.slice p 8 c] w fun e w' => e = .returned (.float .f64 (bv xs)) ∧ w' = w := by
  have hff := Fq.ff64 (bv xs)
  have HX : Hid (Arr w p xs ∧ xs.length = 8 ∧ Wb xs) := ⟨hx, hl, hw⟩
  clear hx hl hw
  go_enter Try.func76, Try.ntmps76
  go_wp2
  go_loop [3, 8] (fun b i => ∃ (k B : Nat), k ≤ 8 ∧ i = .int .i64 k ∧ b = .int .u64 (B : Int) ∧ B = bv (xs.take k)) (fun _ i => 8 - (intOf i).toNat)
  case atStart => exact ⟨0, 0, Nat.zero_le _, rfl, rfl, by simp [bv]⟩
  case round =>
    obtain ⟨k, B, hk, rfl, rfl, hB⟩ := hrel
    obtain ⟨hx, hl, hw⟩ := HX.out
    by_cases ck : k < 8
    · obtain ⟨b, off, rfl, hc⟩ := hx.at (k := k) (by omega)
      have e1 := hc k (by omega)
      have hy := hw k
      have hB2 := bv_take_succ xs k
      rw [← hB] at hB2
      have hBl : B < 256 ^ k := by
        have := bv_lt (xs.take k) (hw.take k)
        rw [List.length_take, Nat.min_eq_left (by omega), ← hB] at this
        exact this
      obtain ⟨Y, hY⟩ := Int.eq_ofNat_of_zero_le hy.1
      rw [hY] at e1 hB2 hy
      have hv := or_word B Y k hBl (by omega) ck
      rw [Int.toNat_natCast] at hB2
      clear hc HX hx hl hw hB hBl hY hff
      go_wp2
      exact ⟨⟨k + 1, B + Y * 256 ^ k, by omega, by go_num, by rw [Int.natCast_add, Int.natCast_mul, Int.natCast_pow]; rfl, hB2.symm⟩, by simp [intOf]; omega⟩
    · have hk8 : k = 8 := by omega
      subst hk8
      rw [List.take_of_length_le (by omega)] at hB
      subst hB
      clear HX hx hl hw ck hk
      go_wp2
      exact bodyPost_ret (v := .float .f64 (bv xs)) (by simp [results, Try.results76, go_sem]) rfl ⟨rfl, rfl⟩
end B8
end Go.Proofs.Ytipedmnipolmeaa
namespace Go.Proofs.Ytipedmnipolmeaa
open Go.RowKit
open Go
namespace B8
theorem h2snd (w : World) (x : Array Value) (c d : Value) (s t : TypeId) : Fq.H2 ((w.alloc (.cells x s)).alloc (.cells #[c, d] t)) (w.heap.size + 1) c d := by
  unfold Fq.H2; simp [go_sem]
/-- are bytes an interval's form? -/
def gOk (xs : List Int) : Bool := decide (xs.length = 16) && Fq.vld (bv (xs.take 8)) (bv (xs.drop 8))
def gX (xs : List Int) : Nat := if gOk xs then bv (xs.take 8) else 0
def gY (xs : List Int) : Nat := if gOk xs then bv (xs.drop 8) else 0
def gE (xs : List Int) : Int := if gOk xs then 0 else 130
theorem Arr.part {w : World} {b off : Nat} {xs : List Int} (h : ∀ j, j < xs.length → w.cell? ⟨b, off + j, none⟩ = some (.int .u8 (xs.getD j 0))) (o m : Nat) : Arr w (some ⟨b, off + o, none⟩) ((xs.drop o).take m) := Or.inr ⟨b, off + o, rfl, fun j hj => by
  rw [List.length_take, List.length_drop] at hj
  rw [Nat.add_assoc, h (o + j) (by omega)]
  simp [List.getD, List.getElem?_drop, show j < m from by omega]⟩
set_option maxRecDepth 20000 in
set_option maxHeartbeats 1000000 in
theorem getN_ (p : Option Addr) (N c : Nat) (t : ((N : Int) != 16) = true) (w : World) : Calls Try.prog 69 #[.slice p N c] w fun e w' => e = .returned (.tuple #[.agg #[.float .f64 0, .float .f64 0], .int .i64 130]) ∧ Kp w w' := by
  go_enter Try.func69, Try.ntmps69
  go_wp2
  exact bodyPost_ret (v := .tuple #[.agg #[.float .f64 0, .float .f64 0], .int .i64 130]) (by simp [results, Try.results69, go_sem]) rfl ⟨rfl, (by repeat (with_reducible (first | assumption | exact Kp.refl _ | apply Kp.drew | apply Kp.alloc | apply Kp.drewN | (refine Kp.setCell ?_ (by first | omega | (simp <;> omega)) _) | (refine Kp.trans ?_ (by assumption)))))⟩
set_option maxRecDepth 20000 in
set_option maxHeartbeats 1000000 in
theorem getY_ (b off o2 c X Y : Nat) (HC1 : ∀ w : World, Calls Try.prog 65 #[.slice (some ⟨b, off, none⟩) 16 c, .int .i64 0, .int .i64 8] w fun e w' => e = .returned (.slice (some ⟨b, off, none⟩) 8 8) ∧ w' = w) (HC2 : ∀ w : World, Calls Try.prog 65 #[.slice (some ⟨b, off, none⟩) 16 c, .int .i64 8, .int .i64 8] w fun e w' => e = .returned (.slice (some ⟨b, o2, none⟩) 8 8) ∧ w' = w) (w : World) (HN1 : ∀ W : World, Kp w W → Calls Try.prog 76 #[.slice (some ⟨b, off, none⟩) 8 8] W fun e w' => e = .returned (.float .f64 X) ∧ w' = W) (HN2 : ∀ W : World, Kp w W → Calls Try.prog 76 #[.slice (some ⟨b, o2, none⟩) 8 8] W fun e w' => e = .returned (.float .f64 Y) ∧ w' = W) (hv : ∀ w : World, Calls Try.prog 40 #[.agg #[.float .f64 X, .float .f64 Y]] w fun e w' => e = .returned (.bool true) ∧ Kp w w') : Calls Try.prog 69 #[.slice (some ⟨b, off, none⟩) 16 c] w fun e w' => e = .returned (.tuple #[.agg #[.float .f64 X, .float .f64 Y], .int .i64 0]) ∧ Kp w w' := by
  go_enter Try.func69, Try.ntmps69
  go_wp2_with (first | (go_at_call_of 65 (Value.int .i64 0); refine (HC1 _).mono ?_; rintro e w' ⟨rfl, rfl⟩) | (go_at_call 65; refine (HC2 _).mono ?_; rintro e w' ⟨rfl, rfl⟩) | (go_at_call_of 76 (Value.slice (some ⟨b, off, none⟩) 8 8); refine (HN1 _ ?qk).mono ?_; (case qk => ((repeat (first | with_reducible exact Kp.refl _ | with_reducible refine Kp.drew ?_ | with_reducible refine Kp.alloc ?_ _)); done)); rintro e w' ⟨rfl, rfl⟩) | (go_at_call_of 76 (Value.slice (some ⟨b, o2, none⟩) 8 8); refine (HN2 _ ?ql).mono ?_; (case ql => ((repeat (first | with_reducible exact Kp.refl _ | with_reducible refine Kp.drew ?_ | with_reducible refine Kp.alloc ?_ _)); done)); rintro e w' ⟨rfl, rfl⟩) | (go_at_call 40; refine (hv _).mono ?_; rintro e w2 ⟨rfl, g2⟩; have k2 : Kp w w2 := Kp.trans (((Kp.refl w).alloc _).alloc _) g2; obtain ⟨r0, r1, r2, r3⟩ := Fq.H2.keep (Fq.H2.past (Fq.H2.new w (.float .f64 0) (.float .f64 0) 71) #[.float .f64 X, .float .f64 Y] 71) g2; obtain ⟨y0, y1, y2, y3⟩ := Fq.H2.keep (h2snd w #[.float .f64 0, .float .f64 0] (.float .f64 X) (.float .f64 Y) 71 71) g2))
  exact bodyPost_ret (v := .tuple #[.agg #[.float .f64 X, .float .f64 Y], .int .i64 0]) (by simp [results, Try.results69, go_sem, r0, r1]) rfl ⟨rfl, ((k2.setCell (by simp) _).setCell (by simp) _)⟩
set_option maxRecDepth 20000 in
set_option maxHeartbeats 1000000 in
theorem getV_ (b off o2 c X Y : Nat) (HC1 : ∀ w : World, Calls Try.prog 65 #[.slice (some ⟨b, off, none⟩) 16 c, .int .i64 0, .int .i64 8] w fun e w' => e = .returned (.slice (some ⟨b, off, none⟩) 8 8) ∧ w' = w) (HC2 : ∀ w : World, Calls Try.prog 65 #[.slice (some ⟨b, off, none⟩) 16 c, .int .i64 8, .int .i64 8] w fun e w' => e = .returned (.slice (some ⟨b, o2, none⟩) 8 8) ∧ w' = w) (w : World) (HN1 : ∀ W : World, Kp w W → Calls Try.prog 76 #[.slice (some ⟨b, off, none⟩) 8 8] W fun e w' => e = .returned (.float .f64 X) ∧ w' = W) (HN2 : ∀ W : World, Kp w W → Calls Try.prog 76 #[.slice (some ⟨b, o2, none⟩) 8 8] W fun e w' => e = .returned (.float .f64 Y) ∧ w' = W) (hv : ∀ w : World, Calls Try.prog 40 #[.agg #[.float .f64 X, .float .f64 Y]] w fun e w' => e = .returned (.bool false) ∧ Kp w w') : Calls Try.prog 69 #[.slice (some ⟨b, off, none⟩) 16 c] w fun e w' => e = .returned (.tuple #[.agg #[.float .f64 0, .float .f64 0], .int .i64 130]) ∧ Kp w w' := by
  go_enter Try.func69, Try.ntmps69
  go_wp2_with (first | (go_at_call_of 65 (Value.int .i64 0); refine (HC1 _).mono ?_; rintro e w' ⟨rfl, rfl⟩) | (go_at_call 65; refine (HC2 _).mono ?_; rintro e w' ⟨rfl, rfl⟩) | (go_at_call_of 76 (Value.slice (some ⟨b, off, none⟩) 8 8); refine (HN1 _ ?qk).mono ?_; (case qk => ((repeat (first | with_reducible exact Kp.refl _ | with_reducible refine Kp.drew ?_ | with_reducible refine Kp.alloc ?_ _)); done)); rintro e w' ⟨rfl, rfl⟩) | (go_at_call_of 76 (Value.slice (some ⟨b, o2, none⟩) 8 8); refine (HN2 _ ?ql).mono ?_; (case ql => ((repeat (first | with_reducible exact Kp.refl _ | with_reducible refine Kp.drew ?_ | with_reducible refine Kp.alloc ?_ _)); done)); rintro e w' ⟨rfl, rfl⟩) | (go_at_call 40; refine (hv _).mono ?_; rintro e w2 ⟨rfl, g2⟩; have k2 : Kp w w2 := Kp.trans (((Kp.refl w).alloc _).alloc _) g2; obtain ⟨r0, r1, r2, r3⟩ := Fq.H2.keep (Fq.H2.past (Fq.H2.new w (.float .f64 0) (.float .f64 0) 71) #[.float .f64 X, .float .f64 Y] 71) g2; obtain ⟨y0, y1, y2, y3⟩ := Fq.H2.keep (h2snd w #[.float .f64 0, .float .f64 0] (.float .f64 X) (.float .f64 Y) 71 71) g2))
  exact bodyPost_ret (v := .tuple #[.agg #[.float .f64 0, .float .f64 0], .int .i64 130]) (by simp [results, Try.results69, go_sem, r0, r1]) rfl ⟨rfl, ((k2.setCell (by simp) _).setCell (by simp) _)⟩
theorem get_ (p : Option Addr) (c N : Nat) (xs : List Int) (w : World) (hx : Arr w p xs) (hl : xs.length = N) (hw : Wb xs) (hc : N ≤ c) : Calls Try.prog 69 #[.slice p N c] w fun e w' => e = .returned (.tuple #[.agg #[.float .f64 (gX xs), .float .f64 (gY xs)], .int .i64 (gE xs)]) ∧ Kp w w' := by
  subst hl
  by_cases h : xs.length = 16
  · obtain ⟨b, off, rfl, hcell⟩ := hx.at (k := 0) (by omega)
    have HC1 : ∀ w : World, Calls Try.prog 65 #[.slice (some ⟨b, off, none⟩) 16 c, .int .i64 0, .int .i64 8] w fun e w' => e = .returned (.slice (some ⟨b, off, none⟩) 8 8) ∧ w' = w := cut_ b off 16 c 0 8 (by omega) (by decide) (by decide)
    have HC2 : ∀ w : World, Calls Try.prog 65 #[.slice (some ⟨b, off, none⟩) 16 c, .int .i64 8, .int .i64 8] w fun e w' => e = .returned (.slice (some ⟨b, off + 8, none⟩) 8 8) ∧ w' = w := cut_ b off 16 c 8 8 (by omega) (by decide) (by decide)
    have a1 := Arr.part hcell 0 8
    have a2 := Arr.part hcell 8 8
    rw [Nat.add_zero, List.drop_zero] at a1
    have l1 : (xs.take 8).length = 8 := by rw [List.length_take]; omega
    have l2 : (xs.drop 8).length = 8 := by rw [List.length_drop]; omega
    rw [List.take_of_length_le (by omega)] at a2
    have w1 := hw.take 8
    have w2 := hw.drop 8
    have HN1 : ∀ W : World, Kp w W → Calls Try.prog 76 #[.slice (some ⟨b, off, none⟩) 8 8] W fun e w' => e = .returned (.float .f64 (bv (xs.take 8))) ∧ w' = W := fun W k => number_ _ 8 _ W (a1.grown k) l1 w1
    have HN2 : ∀ W : World, Kp w W → Calls Try.prog 76 #[.slice (some ⟨b, off + 8, none⟩) 8 8] W fun e w' => e = .returned (.float .f64 (bv (xs.drop 8))) ∧ w' = W := fun W k => number_ _ 8 _ W (a2.grown k) l2 w2
    have hv := Fq.valid_ (bv (xs.take 8)) (bv (xs.drop 8)) (bv_lt8 _ l1 w1) (bv_lt8 _ l2 w2)
    rw [h]
    unfold gX gY gE gOk
    rw [decide_eq_true h, Bool.true_and]
    cases hvv : Fq.vld (bv (xs.take 8)) (bv (xs.drop 8))
    · rw [hvv] at hv
      exact getV_ b off (off + 8) c _ _ HC1 HC2 w HN1 HN2 hv
    · rw [hvv] at hv
      exact getY_ b off (off + 8) c _ _ HC1 HC2 w HN1 HN2 hv
  · unfold gX gY gE gOk
    rw [decide_eq_false h, Bool.false_and]
    exact getN_ p _ c (by simp; omega) w
end B8
end Go.Proofs.Ytipedmnipolmeaa
namespace Go.Proofs.Ytipedmnipolmeaa
open Go.RowKit
open Go
namespace X7
set_option linter.unusedVariables false
open B8
theorem kb_set {g b o : Nat} {w w' : World} (h : Kb g w w') (hb : w.heap.size ≤ b) (v : Value) : Kb g w (w'.setCell ⟨b, o, none⟩ v) :=
  ⟨h.1, h.2.1, h.2.2.1, by simpa using h.2.2.2.1, fun i hi hne => (heap_setCell_other w' ⟨b, o, none⟩ i v (by intro e; simp at e; omega)).trans (h.2.2.2.2 i hi hne)⟩
theorem gX_cB (q : Nat × Nat) (hq : q.1 < 18446744073709551616 ∧ q.2 < 18446744073709551616) (hv : Fq.vld q.1 q.2 = true) : gX (cB q) = q.1 ∧ gY (cB q) = q.2 ∧ gE (cB q) = 0 := by
  have h1 : (cB q).take 8 = by8 q.1 := by unfold cB; rw [List.take_left' (by8_len _)]
  have h2 : (cB q).drop 8 = by8 q.2 := by unfold cB; rw [List.drop_left' (by8_len _)]
  have hl : (cB q).length = 16 := by unfold cB; rw [List.length_append, by8_len, by8_len]
  have hg : gOk (cB q) = true := by unfold gOk; rw [h1, h2, bv_by8 _ hq.1, bv_by8 _ hq.2, hv, hl]; rfl
  unfold gX gY gE
  rw [hg, h1, h2, bv_by8 _ hq.1, bv_by8 _ hq.2]
  exact ⟨rfl, rfl, rfl⟩
set_option maxRecDepth 20000 in
set_option maxHeartbeats 1000000 in
theorem rconstant_ (br g N c a : Nat) (xs rs : List Int) (Y1 Y2 : Nat) (hq : Y1 < 18446744073709551616 ∧ Y2 < 18446744073709551616) (hv : Fq.vld Y1 Y2 = true) (hd : DR xs a (cB (Y1, Y2)) rs) (hxN : N = xs.length) (hNc : N ≤ c) (hN : N ≤ 1048576) (hne : g ≠ br) (w : World) (h : H3c w br (.slice (some ⟨g, 0, none⟩) N c) (.int .i64 (a : Int)) (.bool false)) (hb : BY w g xs) :
    Calls Try.prog 55 #[.pointer (some ⟨br, 0, none⟩)] w fun e w' => e = .returned (.agg #[.float .f64 Y1, .float .f64 Y2]) ∧ H3c w' br (.slice (some ⟨g, 0, none⟩) N c) (.int .i64 ((a + 16 : Nat) : Int)) (.bool false) ∧ Kb br w w' := by
  have hl : (cB (Y1, Y2)).length = 16 := by unfold cB; rw [List.length_append, by8_len, by8_len]
  have hle := hd.le (by rw [hl]; decide)
  rw [hl] at hle
  have kA : Kp w (w.alloc (.cells #[.float .f64 0, .float .f64 0] 71)) := (Kp.refl w).alloc _
  have h1 := H3c.keep h kA
  have hpt := part_ br g N c a 16 16 rfl (by decide) (by omega) hNc hN (w.alloc (.cells #[.float .f64 0, .float .f64 0] 71)) h1
  obtain ⟨g1, g2, g3⟩ := gX_cB (Y1, Y2) hq hv
  have hge : ∀ W : World, BY W g xs → Calls Try.prog 69 #[.slice (some ⟨g, a, none⟩) 16 16] W fun e w' => e = .returned (.tuple #[.agg #[.float .f64 Y1, .float .f64 Y2], .int .i64 0]) ∧ Kp W w' := fun W hW => by
    have hA : B8.Arr W (some ⟨g, a, none⟩) (cB (Y1, Y2)) := Or.inr ⟨g, a, rfl, fun j hj => by
      rw [hl] at hj
      rw [hW (a + j) (by omega), hd.at j (by rw [hl]; exact hj)]⟩
    have h := get_ (some ⟨g, a, none⟩) 16 16 (cB (Y1, Y2)) W hA hl (Wb.append (by8_wb _) (by8_wb _)) (Nat.le_refl _)
    rw [g1, g2, g3] at h
    exact h
  have hbr : w.heap.size ≠ br := by have := h.lt; omega
  have hb1 := hb.kp kA
  have ea : (a : Int) + 16 = ((a + 16 : Nat) : Int) := by omega
  have q2 := Fq.H2.new w (.float .f64 0) (.float .f64 0) 71
  clear hq hv hd hxN hNc hN hle h hb hl g1 g2 g3
  go_enter Try.func55, Try.ntmps55
  go_upto_region 2 with (first | (go_at_call 67; refine hpt.mono ?_; rintro e w1 ⟨rfl, r1, k1⟩; replace hb1 := hb1.kb k1 hne; obtain ⟨b0, b1, b2, b3, b4, b5⟩ := id r1))
  have q21 : Fq.H2 w1 w.heap.size (.float .f64 0) (.float .f64 0) := by
    obtain ⟨u0, u1, u2, u3⟩ := q2
    have e : w1.heap[w.heap.size]? = (w.alloc (.cells #[.float .f64 0, .float .f64 0] 71)).heap[w.heap.size]? := k1.2.2.2.2 _ (by simp) hbr
    exact ⟨k1.arr hbr u0, k1.arr hbr u1, (World.frozen?_of_block (w := (w.alloc (.cells #[.float .f64 0, .float .f64 0] 71))) e).trans u2, (World.frozen?_of_block (w := (w.alloc (.cells #[.float .f64 0, .float .f64 0] 71))) e).trans u3⟩
  have hge1 := hge w1 hb1
  go_upto_region 7 with (first | (go_at_call 69; refine hge1.mono ?_; rintro e w2 ⟨rfl, g2⟩))
  have kB : Kp w1 (w2.alloc (.cells #[.float .f64 Y1, .float .f64 Y2] 71)) := Kp.alloc g2 _
  have q22 := Fq.H2.keep q21 kB
  have q5 := Fq.H2.new w2 (.float .f64 Y1) (.float .f64 Y2) 71
  have r2 := r1.keep kB
  have hlt : w.heap.size < w1.heap.size := q21.lt
  have hs2 := g2.size
  have hne2 : w.heap.size ≠ w2.heap.size := by omega
  generalize (w2.alloc (.cells #[.float .f64 Y1, .float .f64 Y2] 71)) = W2 at kB q22 q5 r2 ⊢
  generalize w2.heap.size = B4 at q5 hne2 ⊢
  obtain ⟨u0, u1, u2, u3⟩ := id q22
  obtain ⟨v0, v1, v2, v3⟩ := id q5
  clear hge hge1 hpt hb1 q2 b0 b1 b2 b3 b4 b5 q21 g2 hlt hs2
  go_wp2
  rw [ea] at r2
  refine bodyPost_ret (v := .agg #[.float .f64 Y1, .float .f64 Y2]) (by simp [results, Try.results55, go_sem, u0, u1]) rfl ⟨rfl, H3c.far1 (H3c.far1 r2 _ hbr _) _ hbr _, ?_⟩
  exact kb_set (kb_set (kb_trans (kb_kp kA) (kb_trans k1 (kb_kp kB))) (Nat.le_refl _) _) (Nat.le_refl _) _
set_option maxRecDepth 20000 in
set_option maxHeartbeats 1000000 in
theorem rend_ (br g N c : Nat) (hN : N ≤ 1048576) (w : World) (h : H3c w br (.slice (some ⟨g, 0, none⟩) N c) (.int .i64 (N : Int)) (.bool false)) :
    Calls Try.prog 35 #[.pointer (some ⟨br, 0, none⟩)] w fun e w' => e = .returned (.tuple #[]) ∧ Kp w w' := by
  obtain ⟨b0, b1, b2, b3, b4, b5⟩ := id h
  have t1 : ¬ ((N : Int) < (N : Int)) := by omega
  go_enter Try.func35, Try.ntmps35
  go_upto_region 0 with fail
  refine Fq.wp_region_grow (by kernel_rfl) (by kernel_rfl) (fun ι _ G hG hall => ?_)
  have cc0 : ∀ n, (G n).cell? ⟨br, 0, none⟩ = some (.slice (some ⟨g, 0, none⟩) N c) := fun n => Fq.gkeep (hG n) b0
  have cc1 : ∀ n, (G n).cell? ⟨br, 1, none⟩ = some (.int .i64 (N : Int)) := fun n => Fq.gkeep (hG n) b1
  have cc2 : ∀ n, (G n).cell? ⟨br, 2, none⟩ = some (.bool false) := fun n => Fq.gkeep (hG n) b2
  repeat (go_big_quiet_step (first | fail))
  refine wpQuiet_nil ?_
  rintro _ ⟨nq, rfl⟩
  have gq : Kp w (G nq) := hG nq
  clear cc0 cc1 cc2 hall hG
  go_wp2
  exact bodyPost_end (by simp [results, Try.results35, go_sem]) rfl ⟨rfl, gq⟩
end X7
end Go.Proofs.Ytipedmnipolmeaa
namespace Go.Proofs.Ytipedmnipolmeaa
open Go.RowKit
open Go
namespace X7
set_option linter.unusedVariables false
open B8
def argk (x : I5) : Nat → Int
  | 0 => x.2.1
  | 1 => x.2.2.1
  | _ => x.2.2.2.1
def cv (x : I5) (j k : Nat) : Int := if k < j then argk x k else 0
theorem opB_split (x : I5) (j k : Nat) (h : j < k) (hk : k ≤ 3) : ∃ t, opB x k = opB x j ++ (wd (argk x j) ++ t) := by
  rcases (show (j = 0 ∧ k = 1) ∨ (j = 0 ∧ k = 2) ∨ (j = 0 ∧ k = 3) ∨ (j = 1 ∧ k = 2) ∨ (j = 1 ∧ k = 3) ∨ (j = 2 ∧ k = 3) by omega) with ⟨rfl, rfl⟩ | ⟨rfl, rfl⟩ | ⟨rfl, rfl⟩ | ⟨rfl, rfl⟩ | ⟨rfl, rfl⟩ | ⟨rfl, rfl⟩
  · exact ⟨[], by simp [opB, argk]⟩
  · exact ⟨wd x.2.2.1, by simp [opB, argk]⟩
  · exact ⟨wd x.2.2.1 ++ wd x.2.2.2.1, by simp [opB, argk]⟩
  · exact ⟨[], by simp [opB, argk]⟩
  · exact ⟨wd x.2.2.2.1, by simp [opB, argk]⟩
  · exact ⟨[], by simp [opB, argk]⟩
theorem H5c.kb {w w' : World} {b br : Nat} {v0 v1 v2 v3 v4 : Value} (h : H5c w b v0 v1 v2 v3 v4) (k : Kb br w w') (hne : b ≠ br) : H5c w' b v0 v1 v2 v3 v4 := by
  have hl := h.lt
  obtain ⟨h0, h1, h2, h3, h4, h5, h6, h7, h8, h9⟩ := h
  have f : ∀ o, w'.frozen? ⟨b, o, none⟩ = w.frozen? ⟨b, o, none⟩ := fun o => World.frozen?_of_block (w := w) (k.2.2.2.2 b hl hne)
  exact ⟨k.arr hne h0, k.arr hne h1, k.arr hne h2, k.arr hne h3, k.arr hne h4, (f _).trans h5, (f _).trans h6, (f _).trans h7, (f _).trans h8, (f _).trans h9⟩
theorem H3c.kb {w w' : World} {b br : Nat} {v0 v1 v2 : Value} (h : H3c w b v0 v1 v2) (k : Kb br w w') (hne : b ≠ br) : H3c w' b v0 v1 v2 := by
  have hl := h.lt
  obtain ⟨h0, h1, h2, h3, h4, h5⟩ := h
  have f : ∀ o, w'.frozen? ⟨b, o, none⟩ = w.frozen? ⟨b, o, none⟩ := fun o => World.frozen?_of_block (w := w) (k.2.2.2.2 b hl hne)
  exact ⟨k.arr hne h0, k.arr hne h1, k.arr hne h2, (f _).trans h3, (f _).trans h4, (f _).trans h5⟩
/-- the three operands, as far as they were read -/
def Q3 (w : World) (b : Nat) (x : I5) (j : Nat) : Prop := H3c w b (.int .i64 (cv x j 0)) (.int .i64 (cv x j 1)) (.int .i64 (cv x j 2))
theorem Q3.at {w : World} {b : Nat} {x : I5} {j : Nat} (h : Q3 w b x j) (hj : j < 3) : (∃ v, w.cell? ⟨b, j, none⟩ = some (.int .i64 v)) ∧ w.frozen? ⟨b, j, none⟩ = false := by
  obtain ⟨h0, h1, h2, h3, h4, h5⟩ := h
  rcases (show j = 0 ∨ j = 1 ∨ j = 2 by omega) with rfl | rfl | rfl
  · exact ⟨⟨_, h0⟩, h3⟩
  · exact ⟨⟨_, h1⟩, h4⟩
  · exact ⟨⟨_, h2⟩, h5⟩
theorem Q3.put {w : World} {b : Nat} {x : I5} {j : Nat} (h : Q3 w b x j) (hj : j < 3) : Q3 (w.setCell ⟨b, j, none⟩ (.int .i64 (argk x j))) b x (j + 1) := by
  obtain ⟨h0, h1, h2, h3, h4, h5⟩ := h
  rcases (show j = 0 ∨ j = 1 ∨ j = 2 by omega) with rfl | rfl | rfl <;> (unfold Q3 H3c; simp [go_sem, h0, h1, h2, h3, h4, h5, cv])
set_option maxRecDepth 20000 in
set_option maxHeartbeats 8000000 in
theorem rdline_ (br g N c a : Nat) (xs rs : List Int) (x0 x1 x2 x3 x4 V K C : Int) (hV : 0 ≤ V ∧ V ≤ 32) (hK : 0 ≤ K ∧ K < 1024) (hC : 0 ≤ C ∧ C ≤ 256) (hln : lnE (V + K - 1) C x0 x1 x2 x3 x4 = 0) (hd : DR xs a (lnB (x0, x1, x2, x3, x4)) rs) (hxN : N = xs.length) (hNc : N ≤ c) (hN : N ≤ 1048576) (hne : g ≠ br) (w : World) (h : H3c w br (.slice (some ⟨g, 0, none⟩) N c) (.int .i64 (a : Int)) (.bool false)) (hb : BY w g xs) :
    Calls Try.prog 56 #[.pointer (some ⟨br, 0, none⟩), .int .i64 V, .int .i64 K, .int .i64 C] w fun e w' => e = .returned (.agg #[.int .i64 x0, .int .i64 x1, .int .i64 x2, .int .i64 x3, .int .i64 x4]) ∧ H3c w' br (.slice (some ⟨g, 0, none⟩) N c) (.int .i64 ((a + (lnB (x0, x1, x2, x3, x4)).length : Nat) : Int)) (.bool false) ∧ Kb br w w' := by
  obtain ⟨hx0, hop1, hop2, hop3, hnb⟩ := lnE_zero hln
  have hUb := opN_b x0
  have hm : x0 % 256 = x0 := by omega
  have hd0 : DR xs a ([x0] ++ (opB (x0, x1, x2, x3, x4) (opN x0).toNat ++ (if x0 = 1 ∨ x0 = 12 then wd x4 else []))) rs := by
    have h := hd
    unfold lnB at h
    simp only at h
    rw [hm, List.append_assoc] at h
    exact h
  have hd1 := hd0.next
  rw [List.length_singleton] at hd1
  have kA : Kp w (w.alloc (.cells #[.int .i64 0, .int .i64 0, .int .i64 0, .int .i64 0, .int .i64 0] 62)) := (Kp.refl w).alloc _
  have hltr := h.lt
  have hop := operands_ x0
  have hM : ∀ k y, opOk (V + K - 1) (opN x0) k y = true → -32768 ≤ y ∧ y < 32768 := fun k y hk => by
    unfold opOk at hk
    split at hk
    · have := of_decide_eq_true hk; omega
    · have := of_decide_eq_true hk; omega
  have hx4 : -32768 ≤ x4 ∧ x4 < 32768 := by
    have a1 : nbLo x0 = -1024 ∨ nbLo x0 = 0 := by unfold nbLo; split; exact Or.inl rfl; exact Or.inr rfl
    have a2 : nbHi x0 C ≤ 1024 := by unfold nbHi; split; omega; split <;> omega
    omega
  have harg : ∀ j : Nat, j < 3 → opOk (V + K - 1) (opN x0) j (argk (x0, x1, x2, x3, x4) j) = true := fun j hj => by
    rcases (show j = 0 ∨ j = 1 ∨ j = 2 by omega) with rfl | rfl | rfl
    · exact hop1
    · exact hop2
    · exact hop3
  have hcv : ∀ k : Nat, k < 3 → cv (x0, x1, x2, x3, x4) (opN x0).toNat k = argk (x0, x1, x2, x3, x4) k := fun k hk => by
    unfold cv
    split
    · rfl
    next hn =>
      have e := harg k hk
      unfold opOk at e
      rw [if_neg (by omega)] at e
      exact (of_decide_eq_true e).symm
  obtain ⟨U, hU⟩ : ∃ U : Nat, U = (opN x0).toNat := ⟨_, rfl⟩
  have hUi : opN x0 = (U : Int) := by omega
  rw [hUi] at hop
  rw [← hU] at hd1 hcv
  have hU3 : U ≤ 3 := by omega
  have hsm := small_ br g N c a xs (opB (x0, x1, x2, x3, x4) (opN x0).toNat ++ (if x0 = 1 ∨ x0 = 12 then wd x4 else []) ++ rs) x0 (by omega) 1 21 hx0 hd0.cut hxN hNc hN hne
  have hword : ∀ (W : World) (j : Nat), j < U → H3c W br (.slice (some ⟨g, 0, none⟩) N c) (.int .i64 ((a + 1 + 2 * j : Nat) : Int)) (.bool false) → BY W g xs → Calls Try.prog 54 #[.pointer (some ⟨br, 0, none⟩), .agg #[.int .i64 0, .int .i64 (V + K - 1)]] W fun e w' => e = .returned (.int .i64 (argk (x0, x1, x2, x3, x4) j)) ∧ H3c w' br (.slice (some ⟨g, 0, none⟩) N c) (.int .i64 ((a + 1 + 2 * (j + 1) : Nat) : Int)) (.bool false) ∧ Kb br W w' := fun W j hj hW hB => by
    obtain ⟨t, ht⟩ := opB_split (x0, x1, x2, x3, x4) j U hj hU3
    have hdj : DR xs (a + 1 + 2 * j) (wd (argk (x0, x1, x2, x3, x4) j)) (t ++ (if x0 = 1 ∨ x0 = 12 then wd x4 else []) ++ rs) := by
      have h1 := hd1
      rw [ht, List.append_assoc, List.append_assoc] at h1
      have h2 := h1.next
      rw [opB_len _ _ (by omega), ← List.append_assoc] at h2
      have h3 := h2
      rw [List.append_assoc] at h3
      exact h3.cut
    have e := harg j (by omega)
    have hb9 : 0 ≤ argk (x0, x1, x2, x3, x4) j ∧ argk (x0, x1, x2, x3, x4) j ≤ V + K - 1 := by
      unfold opOk at e
      rw [if_pos (by omega)] at e
      exact of_decide_eq_true e
    have h := word_ br g N c (a + 1 + 2 * j) xs _ (argk (x0, x1, x2, x3, x4) j) (hM _ _ (harg j (by omega))) 0 (V + K - 1) hb9 hdj hxN hNc hN hne W hW hB
    rw [show a + 1 + 2 * j + 2 = a + 1 + 2 * (j + 1) from by omega] at h
    exact h
  have hd2 : DR xs (a + 1 + 2 * U) (if x0 = 1 ∨ x0 = 12 then wd x4 else []) rs := by
    have h2 := hd1.next
    rw [opB_len _ _ hU3] at h2
    exact h2
  have hlnB : (lnB (x0, x1, x2, x3, x4)).length = 1 + 2 * U + ((if x0 = 1 ∨ x0 = 12 then wd x4 else []) : List Int).length := by
    unfold lnB
    simp only [List.length_append, List.length_singleton]
    rw [← hU, opB_len _ _ hU3]
  have hodb := operandBounds_ V K (by omega) (by omega)
  have HN : Hid (N = xs.length ∧ N ≤ c ∧ N ≤ 1048576 ∧ BY w g xs ∧ g ≠ br ∧ br < w.heap.size ∧ U ≤ 3 ∧ DR xs (a + 1 + 2 * U) (if x0 = 1 ∨ x0 = 12 then wd x4 else []) rs ∧ (lnB (x0, x1, x2, x3, x4)).length = 1 + 2 * U + ((if x0 = 1 ∨ x0 = 12 then wd x4 else []) : List Int).length ∧ (-32768 ≤ x4 ∧ x4 < 32768) ∧ (nbLo x0 ≤ x4 ∧ x4 ≤ nbHi x0 C) ∧ (0 ≤ C ∧ C ≤ 256) ∧ (∀ k : Nat, k < 3 → cv (x0, x1, x2, x3, x4) U k = argk (x0, x1, x2, x3, x4) k)) := ⟨hxN, hNc, hN, hb, hne, hltr, hU3, hd2, hlnB, hx4, hnb, hC, hcv⟩
  have s8 := H5c.new w (.int .i64 0) (.int .i64 0) (.int .i64 0) (.int .i64 0) (.int .i64 0) 62
  have r0 := h.keep kA
  have hb0 := hb.kp kA
  clear hd hd0 hd1 hd2 hlnB hop1 hop2 hop3 hnb hM hx4 harg hcv hU hUi hm hUb hln hx0 hK hV hC hxN hNc hN h hb hltr
  go_enter Try.func56, Try.ntmps56
  go_upto_region 1 with fail
  generalize (w.alloc (.cells #[.int .i64 0, .int .i64 0, .int .i64 0, .int .i64 0, .int .i64 0] 62)) = W1 at kA s8 r0 hb0 ⊢
  have hB8 : Hid (w.heap.size ≤ w.heap.size) := Nat.le_refl _
  obtain ⟨B8, hB8e⟩ : ∃ B8, B8 = w.heap.size := ⟨_, rfl⟩
  rw [← hB8e] at s8 ⊢
  have HB : Hid (B8 = w.heap.size) := hB8e
  clear hB8 hB8e
  have n8r : B8 ≠ br := by have h1 := HB.out; have h2 := HN.out; omega
  have kb : Kb br w W1 := kb_kp kA
  clear kA
  go_upto_region 2 with (first | (go_at_call 41; refine (opBounds_ _).mono ?_; rintro e w2 ⟨rfl, g2⟩; replace s8 := s8.keep g2; replace r0 := r0.keep g2; replace hb0 := hb0.kp g2; replace kb := kb_trans kb (kb_kp g2); have hs9 := hsm w2 r0 hb0) | (go_at_call 53; refine hs9.mono ?_; rintro e w3 ⟨rfl, r3, k3⟩; replace s8 := H5c.kb s8 k3 n8r; replace kb := kb_trans kb k3; obtain ⟨p0, p1, p2, p3, p4, p5, p6, p7, p8, p9⟩ := id s8))
  have s81 : H5c (w3.setCell ⟨B8, 0, none⟩ (.int .i64 x0)) B8 (.int .i64 x0) (.int .i64 0) (.int .i64 0) (.int .i64 0) (.int .i64 0) := by unfold H5c; simp [go_sem, p0, p1, p2, p3, p4, p5, p6, p7, p8, p9]
  have r31 := H3c.far1 r3 ⟨B8, 0, none⟩ n8r (.int .i64 x0)
  have kb1 : Kb br w (w3.setCell ⟨B8, 0, none⟩ (.int .i64 x0)) := kb_set kb (by rw [HB.out]; exact Nat.le_refl _) _
  clear s8 r0 hb0 r3 kb hs9 hsm p0 p1 p2 p3 p4 p5 p6 p7 p8 p9
  go_upto_region 2 with fail
  generalize (w3.setCell ⟨B8, 0, none⟩ (.int .i64 x0)) = W3 at s81 r31 kb1 ⊢
  have kB : Kp W3 (W3.alloc (.cells #[.int .i64 0, .int .i64 0, .int .i64 0] 101)) := (Kp.refl W3).alloc _
  have s9 : Q3 (W3.alloc (.cells #[.int .i64 0, .int .i64 0, .int .i64 0] 101)) W3.heap.size (x0, x1, x2, x3, x4) 0 := H3c.new W3 _ _ _ 101
  have s82 := s81.keep kB
  have r32 := r31.keep kB
  have kb2 := kb_trans kb1 (kb_kp kB)
  have hl8 := s81.lt
  have hlr := r31.lt
  go_upto_region 3 with fail
  generalize (W3.alloc (.cells #[.int .i64 0, .int .i64 0, .int .i64 0] 101)) = W4 at kB s9 s82 r32 kb2 ⊢
  obtain ⟨B9, hB9e⟩ : ∃ B9, B9 = W3.heap.size := ⟨_, rfl⟩
  rw [← hB9e] at s9 ⊢
  have n89 : B8 ≠ B9 := by omega
  have n9r : B9 ≠ br := by omega
  have HB9 : Hid (w.heap.size ≤ B9) := by show _ ≤ _; have := HB.out; omega
  clear hB9e hl8 hlr kB s81 r31 kb1
  obtain ⟨p0, p1, p2, p3, p4, p5, p6, p7, p8, p9⟩ := id s82
  go_wp2_with (first | (go_at_call 42; refine (hop _).mono ?_; rintro e w' ⟨rfl, hw'⟩; obtain rfl := hw'.symm; clear hw'))
  have HS : Hid (H3c W4 br (.slice (some ⟨g, 0, none⟩) N c) (.int .i64 ((a + 1 + 2 * 0 : Nat) : Int)) (.bool false) ∧ H5c W4 B8 (.int .i64 x0) (.int .i64 0) (.int .i64 0) (.int .i64 0) (.int .i64 0) ∧ Q3 W4 B9 (x0, x1, x2, x3, x4) 0 ∧ Kb br w W4) := ⟨r32, s82, s9, kb2⟩
  clear r32 s82 s9 kb2 p0 p1 p2 p3 p4 p5 p6 p7 p8 p9 hop
  go_loopw [10, 18] (fun s10 s18 wr => ∃ j : Nat, s18 = .int .i64 j ∧ j ≤ U ∧ H3c wr br (.slice (some ⟨g, 0, none⟩) N c) (.int .i64 ((a + 1 + 2 * j : Nat) : Int)) (.bool false) ∧ H5c wr B8 (.int .i64 x0) (.int .i64 0) (.int .i64 0) (.int .i64 0) (.int .i64 0) ∧ Q3 wr B9 (x0, x1, x2, x3, x4) j ∧ Kb br w wr) (fun _ s18 _ => U - (intOf s18).toNat)
  case atStart => exact ⟨0, rfl, Nat.zero_le _, HS.out⟩
  case round =>
    clear HS
    obtain ⟨j, rfl, hj, r1, s8, s9, kb⟩ := hrel
    have hU3 : U ≤ 3 := HN.out.2.2.2.2.2.2.1
    by_cases cj : j < U
    · have HJ : Hid (j < U) := cj
      have hb1 : BY wr g xs := HN.out.2.2.2.1.kb kb HN.out.2.2.2.2.1
      have j3 : (j : Int) < 3 := by omega
      obtain ⟨⟨q, hq⟩, hf⟩ := s9.at (show j < 3 by omega)
      have HP := fun (W : World) (h : Q3 W B9 (x0, x1, x2, x3, x4) j) => h.put (show j < 3 by omega)
      have hw := fun (W : World) => hword W j cj
      clear hword
      generalize argk (x0, x1, x2, x3, x4) j = Z at hw HP
      go_upto_region 7 with (first | (go_at_call 43; refine (hodb _).mono ?_; rintro e w2 ⟨rfl, g2⟩; replace s8 := s8.keep g2; replace s9 : Q3 w2 B9 (x0, x1, x2, x3, x4) j := H3c.keep s9 g2; replace r1 := r1.keep g2; replace hb1 := hb1.kp g2; replace kb := kb_trans kb (kb_kp g2); have hw9 := hw w2 r1 hb1) | (go_at_call 54; refine hw9.mono ?_; rintro e w3 ⟨rfl, r3, k3⟩; replace s8 := H5c.kb s8 k3 n8r; replace s9 : Q3 w3 B9 (x0, x1, x2, x3, x4) j := H3c.kb s9 k3 n9r; replace kb := kb_trans kb k3; clear hq hf; obtain ⟨⟨q9, hq⟩, hf⟩ := s9.at (show j < 3 by have := HJ.out; omega)))
      have s9' := HP _ s9
      have r4 := H3c.far1 r3 ⟨B9, j, none⟩ n9r (.int .i64 Z)
      have s8' := H5c.far1 s8 ⟨B9, j, none⟩ (Ne.symm n89) (.int .i64 Z)
      have kb' : Kb br w (w3.setCell ⟨B9, j, none⟩ (.int .i64 Z)) := kb_set kb HB9.out _
      clear s9 r3 s8 kb hq hf hw hw9 HP r1 hb1
      go_wp2
      have hJ : j < U := HJ.out
      exact ⟨⟨j + 1, by go_num, hJ, r4, s8', s9', kb'⟩, by simp [intOf]; omega⟩
    · have hjU : j = U := by omega
      subst hjU
      have hcv := HN.out.2.2.2.2.2.2.2.2.2.2.2.2
      have s93 : H3c wr B9 (.int .i64 x1) (.int .i64 x2) (.int .i64 x3) := by
        have h := s9
        unfold Q3 at h
        rw [hcv 0 (by decide), hcv 1 (by decide), hcv 2 (by decide)] at h
        exact h
      obtain ⟨p0, p1, p2, p3, p4, p5, p6, p7, p8, p9⟩ := id s8
      obtain ⟨c0, c1, c2, c3, c4, c5⟩ := id s93
      have HK8 : Hid (w.heap.size ≤ B8) := by show _ ≤ _; rw [HB.out]; exact Nat.le_refl _
      have kd : Kp wr wr.drew := (Kp.refl wr).drew
      have d0 := kkeep kd c0
      have d1 := kkeep kd c1
      have d2 := kkeep kd c2
      clear hcv s9 hword hodb
      go_upto_region 8 with fail
      go_cut [] (fun wx => H5c wx B8 (.int .i64 x0) (.int .i64 x1) (.int .i64 x2) (.int .i64 x3) (.int .i64 0) ∧ H3c wx br (.slice (some ⟨g, 0, none⟩) N c) (.int .i64 ((a + 1 + 2 * j : Nat) : Int)) (.bool false) ∧ Kb br w wx)
      case first =>
        go_region_held3 (fun w' => w'.cell? ⟨B9, 0, none⟩ = some (.int .i64 x1) ∧ w'.cell? ⟨B9, 1, none⟩ = some (.int .i64 x2) ∧ w'.cell? ⟨B9, 2, none⟩ = some (.int .i64 x3)) (first | (with_reducible exact ⟨c0, c1, c2⟩) | (exact ⟨d0, d1, d2⟩) | (exact ⟨((World.cell?_setCell_far _ _ _ _ n89).trans d0), ((World.cell?_setCell_far _ _ _ _ n89).trans d1), ((World.cell?_setCell_far _ _ _ _ n89).trans d2)⟩) | (exact ⟨((World.cell?_setCell_far _ _ _ _ n89).trans ((World.cell?_setCell_far _ _ _ _ n89).trans d0)), ((World.cell?_setCell_far _ _ _ _ n89).trans ((World.cell?_setCell_far _ _ _ _ n89).trans d1)), ((World.cell?_setCell_far _ _ _ _ n89).trans ((World.cell?_setCell_far _ _ _ _ n89).trans d2))⟩) | (exact ⟨((World.cell?_setCell_far _ _ _ _ n89).trans ((World.cell?_setCell_far _ _ _ _ n89).trans ((World.cell?_setCell_far _ _ _ _ n89).trans d0))), ((World.cell?_setCell_far _ _ _ _ n89).trans ((World.cell?_setCell_far _ _ _ _ n89).trans ((World.cell?_setCell_far _ _ _ _ n89).trans d1))), ((World.cell?_setCell_far _ _ _ _ n89).trans ((World.cell?_setCell_far _ _ _ _ n89).trans ((World.cell?_setCell_far _ _ _ _ n89).trans d2)))⟩)) (fail)
        all_goals go_wp2_with fail
        all_goals (
          go_meet
          refine ⟨?_, H3c.far1 (H3c.far1 (H3c.far1 (r1.keep kd) _ n8r _) _ n8r _) _ n8r _, kb_set (kb_set (kb_set (kb_trans kb (kb_kp kd)) HK8.out _) HK8.out _) HK8.out _⟩
          unfold H5c
          simp [go_sem, p0, p1, p2, p3, p4, p5, p6, p7, p8, p9])
      case rest =>
        obtain ⟨s88, r8, kb8⟩ := hcut
        rename_i wc
        clear p0 p1 p2 p3 p4 p5 p6 p7 p8 p9 c0 c1 c2 c3 c4 c5 d0 d1 d2 s93 s8 r1 kb kd
        obtain ⟨p0, p1, p2, p3, p4, p5, p6, p7, p8, p9⟩ := id s88
        have hnu := numbered_ x0
        obtain ⟨hxN, hNc, hN, hb, hne, hltr, hU3, hd2, hlnB, hx4, hnb, hC, -⟩ := HN.out
        by_cases cn : x0 = 1 ∨ x0 = 12
        · rw [if_pos cn] at hd2 hlnB
          rw [decide_eq_true cn] at hnu
          have hnb9 := numberBounds_ x0 C (by omega)
          have hwo := word_ br g N c (a + 1 + 2 * j) xs rs x4 hx4 (nbLo x0) (nbHi x0 C) hnb hd2 hxN hNc hN hne
          have hbw : BY wc g xs := hb.kb kb8 hne
          have HL : Hid (a + 1 + 2 * j + 2 = a + (lnB (x0, x1, x2, x3, x4)).length) := by show _ = _; rw [hlnB, wd_len]; omega
          generalize nbLo x0 = LO at *
          generalize nbHi x0 C = HI at *
          clear hd2 hlnB hx4 hnb hC cn hxN hNc hN hb hltr HN
          go_upto_region 11 with (first | (go_at_call 66; refine (hnu _).mono ?_; rintro e w' ⟨rfl, hw'⟩; obtain rfl := hw'.symm; clear hw') | (go_at_call 44; refine (hnb9 _).mono ?_; rintro e w2 ⟨rfl, g2⟩; replace s88 := s88.keep g2; replace r8 := r8.keep g2; replace hbw := hbw.kp g2; replace kb8 := kb_trans kb8 (kb_kp g2); have hw9 := hwo w2 r8 hbw) | (go_at_call 54; refine hw9.mono ?_; rintro e w3 ⟨rfl, r3, k3⟩; replace s88 := H5c.kb s88 k3 n8r; replace kb8 := kb_trans kb8 k3; clear p0 p1 p2 p3 p4 p5 p6 p7 p8 p9; obtain ⟨p0, p1, p2, p3, p4, p5, p6, p7, p8, p9⟩ := id s88))
          have s89 := H5c.set4 s88 (.int .i64 x4)
          have r9 := H3c.far1 r3 ⟨B8, 4, none⟩ n8r (.int .i64 x4)
          have kb9 : Kb br w (w3.setCell ⟨B8, 4, none⟩ (.int .i64 x4)) := kb_set kb8 HK8.out _
          generalize (w3.setCell ⟨B8, 4, none⟩ (.int .i64 x4)) = W9 at s89 r9 kb9 ⊢
          clear p0 p1 p2 p3 p4 p5 p6 p7 p8 p9 s88 r3 kb8 hw9 hwo hnb9 hnu
          obtain ⟨p0, p1, p2, p3, p4, p5, p6, p7, p8, p9⟩ := id s89
          rw [HL.out] at r9
          go_wp2
          refine bodyPost_ret (v := .agg #[.int .i64 x0, .int .i64 x1, .int .i64 x2, .int .i64 x3, .int .i64 x4]) (by simp [results, Try.results56, go_sem, p0, p1, p2, p3, p4]) rfl ⟨rfl, H3c.far1 (H3c.far1 (H3c.far1 (H3c.far1 (H3c.far1 r9 _ n8r _) _ n8r _) _ n8r _) _ n8r _) _ n8r _, kb_set (kb_set (kb_set (kb_set (kb_set kb9 HK8.out _) HK8.out _) HK8.out _) HK8.out _) HK8.out _⟩
        · rw [if_neg cn] at hlnB
          rw [decide_eq_false cn] at hnu
          obtain rfl : x4 = 0 := by
            have e1 : nbLo x0 = 0 := by unfold nbLo; rw [if_neg (fun h => cn (Or.inr h))]
            have e2 : nbHi x0 C = 0 := by unfold nbHi; rw [if_neg (fun h => cn (Or.inl h)), if_neg (fun h => cn (Or.inr h))]
            omega
          have HL : Hid (a + 1 + 2 * j = a + (lnB (x0, x1, x2, x3, 0)).length) := by show _ = _; rw [hlnB]; simp; omega
          clear hd2 hlnB hx4 hnb hC cn hxN hNc hN hb hltr HN
          go_upto_region 11 with (first | (go_at_call 66; refine (hnu _).mono ?_; rintro e w' ⟨rfl, hw'⟩; obtain rfl := hw'.symm; clear hw'))
          rw [HL.out] at r8
          go_wp2
          refine bodyPost_ret (v := .agg #[.int .i64 x0, .int .i64 x1, .int .i64 x2, .int .i64 x3, .int .i64 0]) (by simp [results, Try.results56, go_sem, p0, p1, p2, p3, p4]) rfl ⟨rfl, H3c.far1 (H3c.far1 (H3c.far1 (H3c.far1 (H3c.far1 r8 _ n8r _) _ n8r _) _ n8r _) _ n8r _) _ n8r _, kb_set (kb_set (kb_set (kb_set (kb_set kb8 HK8.out _) HK8.out _) HK8.out _) HK8.out _) HK8.out _⟩
end X7
end Go.Proofs.Ytipedmnipolmeaa
namespace Go.Proofs.Ytipedmnipolmeaa
open Go.RowKit
open Go
namespace X7
set_option linter.unusedVariables false
set_option linter.unusedSimpArgs false
open B8
theorem appN_ (W Wx : World) (S : Nat) (hS : S ≤ W.heap.size) (k : Kp W Wx) (v : Value) (qs : List I5) (b c : Nat) (x : I5) (hown : OI 62 W S v qs) (e0 : Wx.cell? ⟨b, 0, none⟩ = some (.int .i64 x.1)) (e1 : Wx.cell? ⟨b, 1, none⟩ = some (.int .i64 x.2.1)) (e2 : Wx.cell? ⟨b, 2, none⟩ = some (.int .i64 x.2.2.1)) (e3 : Wx.cell? ⟨b, 3, none⟩ = some (.int .i64 x.2.2.2.1)) (e4 : Wx.cell? ⟨b, 4, none⟩ = some (.int .i64 x.2.2.2.2)) (hb : qs.length + 1 ≤ 1048576) :
    ∃ v' w', (Builtin.append_ #[30, 30] 30 #[v, .slice (some ⟨b, 0, none⟩) 1 c]).run Try.prog Wx = .ok v' w' ∧ (OI 62 w' S v' (qs ++ [x]) ∧ Below S W w' ∧ W.heap.size ≤ w'.heap.size) := by
  obtain ⟨i0, hi0, hi1, hi2, hi3⟩ := infN
  have hsz := Below.size k
  have hox : OI 62 Wx S v qs := hown.kp k
  obtain ⟨v', w', hr, ho, hg, -, h5⟩ := run_append_own_at (P := Try.prog) Wx S 30 30 62 i0 (.agg #[.int .i64 0, .int .i64 0, .int .i64 0, .int .i64 0, .int .i64 0]) 5 40 Try.underlying30 hi0 hi1 hi2 hi3 rfl (by decide) v qs.length (flat5 qs) hox ⟨b, 0, none⟩ 1 c [.int .i64 x.1, .int .i64 x.2.1, .int .i64 x.2.2.1, .int .i64 x.2.2.2.1, .int .i64 x.2.2.2.2] rfl (fun j u hu => by
    match j, hu with
    | 0, hu => rw [X7.addr_add, Nat.add_zero, e0]; simpa using hu
    | 1, hu => rw [X7.addr_add, e1]; simpa using hu
    | 2, hu => rw [X7.addr_add, e2]; simpa using hu
    | 3, hu => rw [X7.addr_add, e3]; simpa using hu
    | 4, hu => rw [X7.addr_add, e4]; simpa using hu) (fun u hu => by simp at hu; rcases hu with rfl | rfl | rfl | rfl | rfl <;> rfl) (by unfold maxLen; omega) (by omega) (by omega)
  exact ⟨v', w', hr, OI.push ho, Below.grown (Below.mono k hS) hg (by omega) (oi_block hox), Nat.le_trans hsz hg.size⟩
theorem OG.kb {f : Nat → Value} {T : TypeId} {w w' : World} {base br : Nat} {v : Value} {ps : List (Nat × Nat)} (h : OG f T w base v ps) (k : Kb br w w') (hne : ∀ g, v.ownBlock = some g → g ≠ br) : OG f T w' base v ps := by
  have hl := og_lt h
  refine ⟨h.1, ?_⟩
  rcases h.2 with h' | ⟨g, cap, cur, h1, h2, h3, h4, h5, h6, h7⟩
  · exact Or.inl h'
  · have ho : v.ownBlock = some g := by rw [h1]; rfl
    exact Or.inr ⟨g, cap, cur, h1, h2, by rw [k.2.2.2.2 g (hl g ho) (hne g ho)]; exact h3, h4, h5, h6, h7⟩
theorem OI.kb {T : TypeId} {w w' : World} {base br : Nat} {v : Value} {L : List I5} (h : OI T w base v L) (k : Kb br w w') (hne : ∀ g, v.ownBlock = some g → g ≠ br) : OI T w' base v L := by
  have hl := oi_lt h
  refine ⟨h.1, ?_⟩
  rcases h.2 with h' | ⟨g, cap, cur, h1, h2, h3, h4, h5, h6, h7⟩
  · exact Or.inl h'
  · have ho : v.ownBlock = some g := by rw [h1]; rfl
    exact Or.inr ⟨g, cap, cur, h1, h2, by rw [k.2.2.2.2 g (hl g ho) (hne g ho)]; exact h3, h4, h5, h6, h7⟩
theorem kb_below {br S : Nat} {w W w' : World} (h : Kb br w W) (b : Below S W w') (hs : w.heap.size ≤ S) : Kb br w w' :=
  ⟨b.os.trans h.1, b.tape.trans h.2.1, b.output.trans h.2.2.1, Nat.le_trans h.2.2.2.1 b.size, fun i hi hne => (Below.block b i (Nat.lt_of_lt_of_le hi hs)).trans (h.2.2.2.2 i hi hne)⟩
theorem flatMap_split {α : Type} (f : α → List Int) (L : List α) (d : α) (i : Nat) (h : i < L.length) : L.flatMap f = (L.take i).flatMap f ++ (f (L.getD i d) ++ (L.drop (i + 1)).flatMap f) := by
  have e : L = L.take i ++ (L.getD i d :: L.drop (i + 1)) := by
    have h1 : L.getD i d = L[i] := by simp [List.getD, h]
    rw [h1, ← List.drop_eq_getElem_cons h, List.take_append_drop]
  have e2 := congrArg (List.flatMap f) e
  rw [List.flatMap_append, List.flatMap_cons] at e2
  exact e2
theorem cB_len (L : List (Nat × Nat)) : (L.flatMap cB).length = 16 * L.length := by
  induction L with
  | nil => rfl
  | cons q r ih =>
    rw [List.flatMap_cons, List.length_append, ih, List.length_cons]
    unfold cB
    rw [List.length_append, by8_len, by8_len]
    omega
set_option maxRecDepth 20000 in
set_option maxHeartbeats 16000000 in
theorem rprogram_ (br g N c : Nat) (xs : List Int) (V : Int) (ps : List (Nat × Nat)) (L : List I5) (hch : (chk V ps L).2 = 0) (hwq : Wq ps) (hxs : xs = enc V ps L) (hxN : N = xs.length) (hNc : N ≤ c) (hN : N ≤ 1048576) (hne : g ≠ br) (w : World) (h : H3c w br (.slice (some ⟨g, 0, none⟩) N c) (.int .i64 0) (.bool false)) (hb : BY w g xs) (hgl : g < w.heap.size) :
    Calls Try.prog 34 #[.pointer (some ⟨br, 0, none⟩)] w fun e w' => ∃ pa ca pb cb, e = .returned (.agg #[.int .i64 V, .slice pa ps.length ca, .slice pb L.length cb]) ∧ OG FLV 71 w' w.heap.size (.slice pa ps.length ca) ps ∧ OI 62 w' w.heap.size (.slice pb L.length cb) L ∧ H3c w' br (.slice (some ⟨g, 0, none⟩) N c) (.int .i64 (N : Int)) (.bool false) ∧ Kb br w w' := by
  obtain ⟨hV, ⟨hN2, hal⟩, hM2, hln⟩ := chk_good hch
  have hVm : V % 256 = V := by omega
  have hE : xs = [86] ++ ([71] ++ ([1] ++ ([V] ++ (wd (ps.length : Int) ++ (ps.flatMap cB ++ (wd (L.length : Int) ++ (L.flatMap lnB ++ []))))))) := by
    rw [hxs]; unfold enc; rw [hVm]; simp
  have d0 : DR xs 0 [86] _ := DR.zero hE
  have d1 : DR xs 1 [71] _ := d0.rest
  have d2 : DR xs 2 [1] _ := d1.rest
  have d3 : DR xs 3 [V] _ := d2.rest
  have d4 : DR xs 4 (wd (ps.length : Int)) _ := d3.rest
  have d6 : DR xs 6 (ps.flatMap cB) _ := d4.rest
  have d7 : DR xs (6 + 16 * ps.length) (wd (L.length : Int)) (L.flatMap lnB ++ []) := by
    have h := d6.rest
    rw [cB_len] at h
    exact h
  have d8 : DR xs (6 + 16 * ps.length + 2) (L.flatMap lnB) [] := d7.rest
  have hltr := h.lt
  obtain ⟨NP, hNP⟩ : ∃ NP, NP = ps.length := ⟨_, rfl⟩
  obtain ⟨M, hM⟩ : ∃ M, M = L.length := ⟨_, rfl⟩
  rw [← hNP] at d4 d7 d8 hN2 ⊢
  rw [← hM] at d7 hM2 ⊢
  have htot : 6 + 16 * NP + 2 + (L.flatMap lnB).length = N := by
    have e := congrArg List.length hE
    rw [hxN, e]
    simp only [List.length_append, List.length_singleton, wd_len, cB_len, List.length_nil]
    rw [← hNP]
    omega
  have hsm : ∀ (j : Nat) (z : Int), (0 ≤ z ∧ z < 256) → ((j = 0 ∧ z = 86) ∨ (j = 1 ∧ z = 71) ∨ (j = 2 ∧ z = 1)) → ∀ W : World, H3c W br (.slice (some ⟨g, 0, none⟩) N c) (.int .i64 (j : Int)) (.bool false) → BY W g xs → Calls Try.prog 53 #[.pointer (some ⟨br, 0, none⟩), .agg #[.int .i64 z, .int .i64 z]] W fun e w' => e = .returned (.int .i64 z) ∧ H3c w' br (.slice (some ⟨g, 0, none⟩) N c) (.int .i64 ((j + 1 : Nat) : Int)) (.bool false) ∧ Kb br W w' := fun j z hz hj W hW hB => by
    rcases hj with ⟨rfl, rfl⟩ | ⟨rfl, rfl⟩ | ⟨rfl, rfl⟩
    · exact small_ br g N c 0 xs _ 86 hz 86 86 (by decide) d0 hxN hNc hN hne W hW hB
    · exact small_ br g N c 1 xs _ 71 hz 71 71 (by decide) d1 hxN hNc hN hne W hW hB
    · exact small_ br g N c 2 xs _ 1 hz 1 1 (by decide) d2 hxN hNc hN hne W hW hB
  have hsV := small_ br g N c 3 xs _ V (by omega) 0 32 hV d3 hxN hNc hN hne
  have hwN := word_ br g N c 4 xs _ (NP : Int) (by omega) 0 256 (by omega) d4 hxN hNc hN hne
  have hwM := word_ br g N c (6 + 16 * NP) xs _ (M : Int) (by omega) 1 1024 (by omega) d7 hxN hNc hN hne
  have hcon0 : ∀ (j : Nat), j < NP → ∀ W : World, H3c W br (.slice (some ⟨g, 0, none⟩) N c) (.int .i64 ((6 + 16 * j : Nat) : Int)) (.bool false) → BY W g xs → Calls Try.prog 55 #[.pointer (some ⟨br, 0, none⟩)] W fun e w' => e = .returned (.agg #[.float .f64 (ps.getD j (0, 0)).1, .float .f64 (ps.getD j (0, 0)).2]) ∧ H3c w' br (.slice (some ⟨g, 0, none⟩) N c) (.int .i64 ((6 + 16 * j + 16 : Nat) : Int)) (.bool false) ∧ Kb br W w' := fun j hj W hW hB => by
    have hs := flatMap_split cB ps (0, 0) j (by omega)
    have h1 := d6
    rw [hs] at h1
    have h2 := h1.next
    rw [cB_len, List.length_take, Nat.min_eq_left (by omega)] at h2
    have hdj := h2.cut
    exact rconstant_ br g N c (6 + 16 * j) xs _ _ _ (hwq j) (allV_at9 hal (by omega)) hdj hxN hNc hN hne W hW hB
  have hlin0 : ∀ (j : Nat), j < M → ∀ W : World, H3c W br (.slice (some ⟨g, 0, none⟩) N c) (.int .i64 ((6 + 16 * NP + 2 + ((L.take j).flatMap lnB).length : Nat) : Int)) (.bool false) → BY W g xs → Calls Try.prog 56 #[.pointer (some ⟨br, 0, none⟩), .int .i64 V, .int .i64 (j : Int), .int .i64 (NP : Int)] W fun e w' => e = .returned (.agg #[.int .i64 (L.getD j D5).1, .int .i64 (L.getD j D5).2.1, .int .i64 (L.getD j D5).2.2.1, .int .i64 (L.getD j D5).2.2.2.1, .int .i64 (L.getD j D5).2.2.2.2]) ∧ H3c w' br (.slice (some ⟨g, 0, none⟩) N c) (.int .i64 ((6 + 16 * NP + 2 + ((L.take (j + 1)).flatMap lnB).length : Nat) : Int)) (.bool false) ∧ Kb br W w' := fun j hj W hW hB => by
    have hs := flatMap_split lnB L D5 j (by omega)
    have h1 := d8
    rw [hs] at h1
    have hdj := h1.next.cut
    have hl := hln j (by omega)
    unfold lnAt at hl
    rw [← hNP] at hl
    have h := rdline_ br g N c (6 + 16 * NP + 2 + ((L.take j).flatMap lnB).length) xs _ (L.getD j D5).1 (L.getD j D5).2.1 (L.getD j D5).2.2.1 (L.getD j D5).2.2.2.1 (L.getD j D5).2.2.2.2 V (j : Int) (NP : Int) hV (by omega) (by omega) hl hdj hxN hNc hN hne W hW hB
    rw [flatMap_take lnB L D5 j (by omega), List.length_append, ← Nat.add_assoc]
    exact h
  have hcv : (convert 40 40 (.slice (some ⟨w.heap.size + 1, 0, none⟩) 3 3)).run Try.prog ((w.alloc (.cells #[.int .i64 0, .slice none 0 0, .slice none 0 0] 32)).alloc (.cells #[.int .u8 86, .int .u8 71, .int .u8 1] 5)) = .ok (.slice (some ⟨w.heap.size + 1, 0, none⟩) 3 3) ((w.alloc (.cells #[.int .i64 0, .slice none 0 0, .slice none 0 0] 32)).alloc (.cells #[.int .u8 86, .int .u8 71, .int .u8 1] 5 (3, 4))) := by
    have h := Lib.run_convert_bytes_const (P := Try.prog) (w.alloc (.cells #[.int .i64 0, .slice none 0 0, .slice none 0 0] 32)) 40 5 #[.int .u8 86, .int .u8 71, .int .u8 1] 3 3 Try.underlying40 Try.underlying5
    simpa using h
  have kA : Kp w ((w.alloc (.cells #[.int .i64 0, .slice none 0 0, .slice none 0 0] 32)).alloc (.cells #[.int .u8 86, .int .u8 71, .int .u8 1] 5 (3, 4))) := ((Kp.refl w).alloc _).alloc _
  have hrow : ((w.alloc (.cells #[.int .i64 0, .slice none 0 0, .slice none 0 0] 32)).alloc (.cells #[.int .u8 86, .int .u8 71, .int .u8 1] 5 (3, 4))).heap[w.heap.size + 1]? = some (.cells #[.int .u8 86, .int .u8 71, .int .u8 1] 5 (3, 4)) := by
    have h := heap_alloc_new (w.alloc (.cells #[.int .i64 0, .slice none 0 0, .slice none 0 0] 32)) (.cells #[.int .u8 86, .int .u8 71, .int .u8 1] 5 (3, 4))
    simpa using h
  have c0 : ((w.alloc (.cells #[.int .i64 0, .slice none 0 0, .slice none 0 0] 32)).alloc (.cells #[.int .u8 86, .int .u8 71, .int .u8 1] 5 (3, 4))).cell? ⟨w.heap.size + 1, 0, none⟩ = some (.int .u8 86) := by rw [cell_of_row _ _ _ _ _ _ hrow]; rfl
  have c1 : ((w.alloc (.cells #[.int .i64 0, .slice none 0 0, .slice none 0 0] 32)).alloc (.cells #[.int .u8 86, .int .u8 71, .int .u8 1] 5 (3, 4))).cell? ⟨w.heap.size + 1, 1, none⟩ = some (.int .u8 71) := by rw [cell_of_row _ _ _ _ _ _ hrow]; rfl
  have c2 : ((w.alloc (.cells #[.int .i64 0, .slice none 0 0, .slice none 0 0] 32)).alloc (.cells #[.int .u8 86, .int .u8 71, .int .u8 1] 5 (3, 4))).cell? ⟨w.heap.size + 1, 2, none⟩ = some (.int .u8 1) := by rw [cell_of_row _ _ _ _ _ _ hrow]; rfl
  have s2 : H3c ((w.alloc (.cells #[.int .i64 0, .slice none 0 0, .slice none 0 0] 32)).alloc (.cells #[.int .u8 86, .int .u8 71, .int .u8 1] 5 (3, 4))) w.heap.size (.int .i64 0) (.slice none 0 0) (.slice none 0 0) := H3c.keep (H3c.new w (.int .i64 0) (.slice none 0 0) (.slice none 0 0) 32) ((Kp.refl _).alloc _)
  have r1 := h.keep kA
  have HN : Hid (BY w g xs ∧ g ≠ br ∧ br < w.heap.size ∧ g < w.heap.size ∧ NP = ps.length ∧ M = L.length ∧ NP ≤ 256 ∧ M ≤ 1024 ∧ 6 + 16 * NP + 2 + (L.flatMap lnB).length = N) := ⟨hb, hne, hltr, hgl, hNP, hM, hN2, hM2.2, htot⟩
  have hM9 : M ≤ 1024 := hM2.2
  clear d0 d1 d2 d3 d4 d6 d7 d8 hE hxs hxN hNc hN hV hal hln hwq hVm hch hrow h hb hNP hM hM2 htot hgl
  go_enter Try.func34, Try.ntmps34
  go_upto_region 2 with fail
  have kb0 : Kb br w ((w.alloc (.cells #[.int .i64 0, .slice none 0 0, .slice none 0 0] 32)).alloc (.cells #[.int .u8 86, .int .u8 71, .int .u8 1] 5 (3, 4))) := kb_kp kA
  generalize ((w.alloc (.cells #[.int .i64 0, .slice none 0 0, .slice none 0 0] 32)).alloc (.cells #[.int .u8 86, .int .u8 71, .int .u8 1] 5 (3, 4))) = W1 at kA c0 c1 c2 s2 r1 kb0 ⊢
  obtain ⟨BH, hBH⟩ : ∃ BH, BH = w.heap.size + 1 := ⟨_, rfl⟩
  obtain ⟨B2, hB2⟩ : ∃ B2, B2 = w.heap.size := ⟨_, rfl⟩
  rw [← hBH] at c0 c1 c2 ⊢
  rw [← hB2] at s2 ⊢
  have n2r : B2 ≠ br := by have := HN.out; omega
  have nhr : BH ≠ br := by have := HN.out; omega
  have HB : Hid (B2 = w.heap.size) := hB2
  have HS : Hid (H3c W1 br (.slice (some ⟨g, 0, none⟩) N c) (.int .i64 ((0 : Nat) : Int)) (.bool false) ∧ H3c W1 B2 (.int .i64 0) (.slice none 0 0) (.slice none 0 0) ∧ (W1.cell? ⟨BH, 0, none⟩ = some (.int .u8 86) ∧ W1.cell? ⟨BH, 1, none⟩ = some (.int .u8 71) ∧ W1.cell? ⟨BH, 2, none⟩ = some (.int .u8 1)) ∧ Kb br w W1) := ⟨r1, s2, ⟨c0, c1, c2⟩, kb0⟩
  clear kA kb0 hBH hB2 hcv c0 c1 c2 s2 r1
  go_loopw [4, 9] (fun s4 s9 wr => (s9 = .int .i64 0 ∧ H3c wr br (.slice (some ⟨g, 0, none⟩) N c) (.int .i64 ((0 : Nat) : Int)) (.bool false) ∧ H3c wr B2 (.int .i64 0) (.slice none 0 0) (.slice none 0 0) ∧ (wr.cell? ⟨BH, 0, none⟩ = some (.int .u8 86) ∧ wr.cell? ⟨BH, 1, none⟩ = some (.int .u8 71) ∧ wr.cell? ⟨BH, 2, none⟩ = some (.int .u8 1)) ∧ Kb br w wr) ∨ (s9 = .int .i64 1 ∧ H3c wr br (.slice (some ⟨g, 0, none⟩) N c) (.int .i64 ((1 : Nat) : Int)) (.bool false) ∧ H3c wr B2 (.int .i64 0) (.slice none 0 0) (.slice none 0 0) ∧ (wr.cell? ⟨BH, 0, none⟩ = some (.int .u8 86) ∧ wr.cell? ⟨BH, 1, none⟩ = some (.int .u8 71) ∧ wr.cell? ⟨BH, 2, none⟩ = some (.int .u8 1)) ∧ Kb br w wr) ∨ (s9 = .int .i64 2 ∧ H3c wr br (.slice (some ⟨g, 0, none⟩) N c) (.int .i64 ((2 : Nat) : Int)) (.bool false) ∧ H3c wr B2 (.int .i64 0) (.slice none 0 0) (.slice none 0 0) ∧ (wr.cell? ⟨BH, 0, none⟩ = some (.int .u8 86) ∧ wr.cell? ⟨BH, 1, none⟩ = some (.int .u8 71) ∧ wr.cell? ⟨BH, 2, none⟩ = some (.int .u8 1)) ∧ Kb br w wr) ∨ (s9 = .int .i64 3 ∧ H3c wr br (.slice (some ⟨g, 0, none⟩) N c) (.int .i64 ((3 : Nat) : Int)) (.bool false) ∧ H3c wr B2 (.int .i64 0) (.slice none 0 0) (.slice none 0 0) ∧ (wr.cell? ⟨BH, 0, none⟩ = some (.int .u8 86) ∧ wr.cell? ⟨BH, 1, none⟩ = some (.int .u8 71) ∧ wr.cell? ⟨BH, 2, none⟩ = some (.int .u8 1)) ∧ Kb br w wr)) (fun _ s9 _ => 3 - (intOf s9).toNat)
  case atStart => exact Or.inl ⟨rfl, HS.out⟩
  case round =>
    clear HS
    rcases hrel with ⟨rfl, r1, s2, ⟨c0, c1, c2⟩, kb⟩ | ⟨rfl, r1, s2, ⟨c0, c1, c2⟩, kb⟩ | ⟨rfl, r1, s2, ⟨c0, c1, c2⟩, kb⟩ | ⟨rfl, r1, s2, ⟨c0, c1, c2⟩, kb⟩
    all_goals have hb1 : BY wr g xs := HN.out.1.kb kb HN.out.2.1
    · have hs9 := hsm 0 86 (by decide) (by decide) wr r1 hb1
      go_wp2_with (first | (go_at_call 53; refine hs9.mono ?_; rintro e w3 ⟨rfl, r3, k3⟩))
      exact ⟨Or.inr (Or.inl ⟨rfl, r3, H3c.kb s2 k3 n2r, ⟨k3.arr nhr c0, k3.arr nhr c1, k3.arr nhr c2⟩, kb_trans kb k3⟩), by decide⟩
    · have hs9 := hsm 1 71 (by decide) (by decide) wr r1 hb1
      go_wp2_with (first | (go_at_call 53; refine hs9.mono ?_; rintro e w3 ⟨rfl, r3, k3⟩))
      exact ⟨Or.inr (Or.inr (Or.inl ⟨rfl, r3, H3c.kb s2 k3 n2r, ⟨k3.arr nhr c0, k3.arr nhr c1, k3.arr nhr c2⟩, kb_trans kb k3⟩)), by decide⟩
    · have hs9 := hsm 2 1 (by decide) (by decide) wr r1 hb1
      go_wp2_with (first | (go_at_call 53; refine hs9.mono ?_; rintro e w3 ⟨rfl, r3, k3⟩))
      exact ⟨Or.inr (Or.inr (Or.inr (⟨rfl, r3, H3c.kb s2 k3 n2r, ⟨k3.arr nhr c0, k3.arr nhr c1, k3.arr nhr c2⟩, kb_trans kb k3⟩))), by decide⟩
    · clear c0 c1 c2 hsm
      obtain ⟨p0, p1, p2, p3, p4, p5⟩ := id s2
      go_upto_region 7 with (first | (go_at_call 18; refine (varsBounds_ _).mono ?_; rintro e w2 ⟨rfl, g2⟩; replace r1 := r1.keep g2; replace s2 := s2.keep g2; replace kb := kb_trans kb (kb_kp g2); replace hb1 := hb1.kp g2; have hs9 := hsV w2 r1 hb1) | (go_at_call 53; refine hs9.mono ?_; rintro e w3 ⟨rfl, r3, k3⟩; replace s2 := H3c.kb s2 k3 n2r; replace kb := kb_trans kb k3; clear p0 p1 p2 p3 p4 p5; obtain ⟨p0, p1, p2, p3, p4, p5⟩ := id s2))
      have s3 := H3c.set0 s2 (.int .i64 V)
      have r4 := H3c.far1 r3 ⟨B2, 0, none⟩ n2r (.int .i64 V)
      have kb3 : Kb br w (w3.setCell ⟨B2, 0, none⟩ (.int .i64 V)) := kb_set kb (by rw [HB.out]; exact Nat.le_refl _) _
      have hb3 : BY (w3.setCell ⟨B2, 0, none⟩ (.int .i64 V)) g xs := HN.out.1.kb kb3 HN.out.2.1
      clear p0 p1 p2 p3 p4 p5 s2 r1 r3 kb hb1 hs9 hsV
      generalize (w3.setCell ⟨B2, 0, none⟩ (.int .i64 V)) = W3 at s3 r4 kb3 hb3 ⊢
      go_upto_region 8 with (first | (go_at_call 20; refine (constsBounds_ _).mono ?_; rintro e w5 ⟨rfl, g5⟩; replace r4 := r4.keep g5; replace s3 := s3.keep g5; replace kb3 := kb_trans kb3 (kb_kp g5); replace hb3 := hb3.kp g5; have hw9 := hwN w5 r4 hb3) | (go_at_call 54; refine hw9.mono ?_; rintro e w6 ⟨rfl, r6, k6⟩; replace s3 := H3c.kb s3 k6 n2r; replace kb3 := kb_trans kb3 k6))
      have hl2 := s3.lt
      have hlr := r6.lt
      obtain ⟨S, hS⟩ : ∃ S, S = w6.heap.size := ⟨_, rfl⟩
      have HSS : Hid (B2 < S ∧ br < S ∧ g < S ∧ w.heap.size ≤ S ∧ w.heap.size ≤ B2) := by
        show _ ∧ _
        have h1 := HN.out
        have h2 := HB.out
        have h3 := kb3.2.2.2.1
        omega
      have HS : Hid (H3c w6 br (.slice (some ⟨g, 0, none⟩) N c) (.int .i64 ((6 + 16 * 0 : Nat) : Int)) (.bool false) ∧ H3c w6 B2 (.int .i64 V) (.slice none 0 0) (.slice none 0 0) ∧ OG FLV 71 w6 S (.slice none 0 0) (ps.take 0) ∧ Kb br w w6 ∧ S ≤ w6.heap.size) := ⟨r6, s3, OG.nil _ _ _ _, kb3, by rw [hS]; exact Nat.le_refl _⟩
      clear hl2 hlr hS r6 s3 kb3 hb3 r4 hw9 hwN k6
      go_loopw [28] (fun s28 wr => ∃ (j : Nat) (pa : Option Addr) (ca : Nat), s28 = .int .i64 j ∧ j ≤ NP ∧ H3c wr br (.slice (some ⟨g, 0, none⟩) N c) (.int .i64 ((6 + 16 * j : Nat) : Int)) (.bool false) ∧ H3c wr B2 (.int .i64 V) (.slice pa j ca) (.slice none 0 0) ∧ OG FLV 71 wr S (.slice pa j ca) (ps.take j) ∧ Kb br w wr ∧ S ≤ wr.heap.size) (fun s28 _ => NP - (intOf s28).toNat)
      case atStart => exact ⟨0, none, 0, rfl, Nat.zero_le _, HS.out⟩
      case round =>
        clear HS
        obtain ⟨j, pa, ca, rfl, hj, r1, s2, og, kb, hS⟩ := hrel
        have hb1 : BY wr g xs := HN.out.1.kb kb HN.out.2.1
        have kd : Kp wr wr.drew := (Kp.refl wr).drew
        by_cases cj : j < NP
        · have HJ : Hid (j < NP) := cj
          have hcon := hcon0 j cj wr.drew (r1.keep kd) (hb1.kp kd)
          have htp := take_push2 ps j (by have := HN.out.2.2.2.2.1; omega)
          have htl : (ps.take j).length = j := by rw [List.length_take]; have := HN.out.2.2.2.2.1; omega
          obtain ⟨Y1, hY1⟩ : ∃ Y, Y = (ps.getD j (0, 0)).1 := ⟨_, rfl⟩
          obtain ⟨Y2, hY2⟩ : ∃ Y, Y = (ps.getD j (0, 0)).2 := ⟨_, rfl⟩
          rw [← hY1, ← hY2] at hcon htp
          have HQ : Hid (ps.take (j + 1) = ps.take j ++ [(Y1, Y2)] ∧ (ps.take j ++ [(Y1, Y2)]).length = j + 1 ∧ (ps.take j).length + 1 ≤ 1048576) := ⟨htp.symm, by rw [List.length_append, htl]; rfl, by have := HN.out.2.2.2.2.2.2.1; omega⟩
          have s2d := s2.keep kd
          have ogd := og.kp kd
          have kbd : Kb br w wr.drew := kb_trans kb (kb_kp kd)
          have hSd : S ≤ wr.drew.heap.size := hS
          obtain ⟨hz1, hz2, hz3, hz4, hz5⟩ := HSS.out
          obtain ⟨p0, p1, p2, p3, p4, p5⟩ := id s2d
          clear hY1 hY2 htp htl hcon0 hlin0 s2 og r1 hb1 kd hS kb
          go_upto_region 9 with fail
          refine wp_region_noPanic ?_
          refine wp_region_held_drew (S := (fun _ => True)) (by kernel_rfl) ?_ (fun hHeld => ?_)
          · trivial
          refine wpAnyH_take (i := 0) (v := .pointer (some ⟨B2, 1, none⟩)) rfl (by kernel_rfl) (by kernel_rfl) (by kernel_rfl) (fun _ _ _ h => h) (Or.inl ⟨by rfl, ?_⟩) (by assumption) ?_
          · intro w hSw
            (try dsimp only at hSw)
            go_simp
          try simp only [Act.put, List.setIfInBounds_toArray, List.set_cons_zero, List.set_cons_succ]
          refine wpAnyH_take (i := 2) (v := .pointer (some ⟨br, 0, none⟩)) rfl (by kernel_rfl) (by kernel_rfl) (by kernel_rfl) (fun _ _ _ h => h) (Or.inl ⟨by rfl, ?_⟩) (by assumption) ?_
          · intro w hSw
            (try dsimp only at hSw)
            go_simp
          try simp only [Act.put, List.setIfInBounds_toArray, List.set_cons_zero, List.set_cons_succ]
          refine wpAnyH_ready (rs := [1, 3]) (by kernel_rfl) (by simp) ?_
          refine AllReadyH.cons rfl (fun K hK => ?_) (AllReadyH.cons rfl (fun K hK => ?_) AllReadyH.nil)
          · go_simp
            refine hK.out _ _ ?_ (fun hHeld => ?_)
            · trivial
            clear hK K
            try simp only [Act.put, List.setIfInBounds_toArray, List.set_cons_zero, List.set_cons_succ]
            refine wpAnyH_ready (rs := [3]) (by kernel_rfl) (by simp) ?_
            refine AllReadyH.cons rfl (fun K hK => ?_) AllReadyH.nil
            go_simp
            refine hcon.mono ?_
            rintro e9 w5 ⟨rfl, r5, k5⟩
            have s5 := H3c.kb s2d k5 n2r
            have og5 := OG.kb ogd k5 (fun g hg => by have := og_block ogd g hg; omega)
            have kb5 := kb_trans kbd k5
            have hS5 : S ≤ w5.heap.size := Nat.le_trans hSd k5.2.2.2.1
            have s5n := s5.keep ((Kp.refl w5).alloc (.cells #[.float .f64 Y1, .float .f64 Y2] 71))
            obtain ⟨e0, e1, e2, e3, e4, e5⟩ := id s5
            obtain ⟨l0, l1, l2, l3, l4, l5⟩ := id s5n
            go_wp2_with fail
            refine hK.out _ _ ?_ (fun hHeld => ?_)
            · trivial
            clear hK K
            try simp only [Act.put, List.setIfInBounds_toArray, List.set_cons_zero, List.set_cons_succ]
            refine wpAnyH_ready (rs := [4]) (by kernel_rfl) (by simp) ?_
            refine AllReadyH.cons rfl (fun K hK => ?_) AllReadyH.nil
            go_simp
            refine hK.out _ _ ?_ (fun hHeld => ?_)
            · trivial
            clear hK K
            try simp only [Act.put, List.setIfInBounds_toArray, List.set_cons_zero, List.set_cons_succ]
            refine wpAnyH_ready (rs := [5]) (by kernel_rfl) (by simp) ?_
            refine AllReadyH.cons rfl (fun K hK => ?_) AllReadyH.nil
            refine if_app2 (by rfl) _ _ 29 rfl _ _ rfl rfl (appF_ w5 _ S hS5 (by (repeat (first | exact Kp.refl _ | apply Kp.drew | apply Kp.alloc)); done) (.slice pa j ca) (ps.take j) w5.heap.size Y1 Y2 1 og5 (by simp [go_sem]) (by simp [go_sem]) HQ.out.2.2) ?_
            rintro v' w2 ⟨hO, hbl, hsz2, hfar⟩
            obtain ⟨pa2, ca2, rfl⟩ := OG.arrN hO HQ.out.2.1
            have sb2 := s5.bel hbl (by omega)
            obtain ⟨m0, m1, m2, m3, m4, m5⟩ := id sb2
            have hq5 := 0
            refine hK.out _ _ ?_ (fun hHeld => ?_)
            · trivial
            clear hK K
            try simp only [Act.put, List.setIfInBounds_toArray, List.set_cons_zero, List.set_cons_succ]
            refine wpAnyH_take (i := 6) (v := .pointer (some ⟨B2, 1, none⟩)) rfl (by kernel_rfl) (by kernel_rfl) (by kernel_rfl) (fun _ _ _ h => h) (Or.inl ⟨by rfl, ?_⟩) (by assumption) ?_
            · intro w hSw
              (try dsimp only at hSw)
              go_simp
            try simp only [Act.put, List.setIfInBounds_toArray, List.set_cons_zero, List.set_cons_succ]
            refine wpAnyH_ready (rs := [7]) (by kernel_rfl) (by simp) ?_
            refine AllReadyH.cons rfl (fun K hK => ?_) AllReadyH.nil
            go_simp
            refine hK.out _ _ ?_ (fun hHeld => ?_)
            · trivial
            clear hK K
            try simp only [Act.put, List.setIfInBounds_toArray, List.set_cons_zero, List.set_cons_succ]
            refine wpAnyH_done (by kernel_rfl) ?_ _
            refine NoPanic.normal ?_
            have rr := HQ.out
            have hJ : j < NP := HJ.out
            have r7 := r5.bel hbl (by omega)
            have s7 := H3c.set1 sb2 (.slice pa2 (j + 1) ca2)
            have kb7 : Kb br w (w2.setCell ⟨B2, 1, none⟩ (.slice pa2 (j + 1) ca2)) := kb_set (kb_below kb5 hbl (by omega)) (by omega) _
            have r8 := H3c.far1 r7 ⟨B2, 1, none⟩ n2r (.slice pa2 (j + 1) ca2)
            have og7 : OG FLV 71 (w2.setCell ⟨B2, 1, none⟩ (.slice pa2 (j + 1) ca2)) S (.slice pa2 (j + 1) ca2) (ps.take (j + 1)) := by
              rw [rr.1]
              exact OG.setNe hO (fun g hg => by have := og_block hO g hg; omega) _
            have hS7 : S ≤ (w2.setCell ⟨B2, 1, none⟩ (.slice pa2 (j + 1) ca2)).heap.size := by simp; omega
            rw [show 6 + 16 * j + 16 = 6 + 16 * (j + 1) from by omega] at r8
            clear hO hbl hsz2 hfar sb2 r7 r5 s5 og5 kb5 rr hq5 HQ
            go_wp2
            exact ⟨⟨j + 1, pa2, ca2, by go_num, hJ, r8, s7, og7, kb7, hS7⟩, by simp [intOf]; omega⟩
          · go_simp
            refine hcon.mono ?_
            rintro e9 w5 ⟨rfl, r5, k5⟩
            have s5 := H3c.kb s2d k5 n2r
            have og5 := OG.kb ogd k5 (fun g hg => by have := og_block ogd g hg; omega)
            have kb5 := kb_trans kbd k5
            have hS5 : S ≤ w5.heap.size := Nat.le_trans hSd k5.2.2.2.1
            have s5n := s5.keep ((Kp.refl w5).alloc (.cells #[.float .f64 Y1, .float .f64 Y2] 71))
            obtain ⟨e0, e1, e2, e3, e4, e5⟩ := id s5
            obtain ⟨l0, l1, l2, l3, l4, l5⟩ := id s5n
            go_wp2_with fail
            refine hK.out _ _ ?_ (fun hHeld => ?_)
            · trivial
            clear hK K
            try simp only [Act.put, List.setIfInBounds_toArray, List.set_cons_zero, List.set_cons_succ]
            refine wpAnyH_ready (rs := [1, 4]) (by kernel_rfl) (by simp) ?_
            refine AllReadyH.cons rfl (fun K hK => ?_) (AllReadyH.cons rfl (fun K hK => ?_) AllReadyH.nil)
            · go_simp
              refine hK.out _ _ ?_ (fun hHeld => ?_)
              · trivial
              clear hK K
              try simp only [Act.put, List.setIfInBounds_toArray, List.set_cons_zero, List.set_cons_succ]
              refine wpAnyH_ready (rs := [4]) (by kernel_rfl) (by simp) ?_
              refine AllReadyH.cons rfl (fun K hK => ?_) AllReadyH.nil
              go_simp
              refine hK.out _ _ ?_ (fun hHeld => ?_)
              · trivial
              clear hK K
              try simp only [Act.put, List.setIfInBounds_toArray, List.set_cons_zero, List.set_cons_succ]
              refine wpAnyH_ready (rs := [5]) (by kernel_rfl) (by simp) ?_
              refine AllReadyH.cons rfl (fun K hK => ?_) AllReadyH.nil
              refine if_app2 (by rfl) _ _ 29 rfl _ _ rfl rfl (appF_ w5 _ S hS5 (by (repeat (first | exact Kp.refl _ | apply Kp.drew | apply Kp.alloc)); done) (.slice pa j ca) (ps.take j) w5.heap.size Y1 Y2 1 og5 (by simp [go_sem]) (by simp [go_sem]) HQ.out.2.2) ?_
              rintro v' w2 ⟨hO, hbl, hsz2, hfar⟩
              obtain ⟨pa2, ca2, rfl⟩ := OG.arrN hO HQ.out.2.1
              have sb2 := s5.bel hbl (by omega)
              obtain ⟨m0, m1, m2, m3, m4, m5⟩ := id sb2
              have hq5 := 0
              refine hK.out _ _ ?_ (fun hHeld => ?_)
              · trivial
              clear hK K
              try simp only [Act.put, List.setIfInBounds_toArray, List.set_cons_zero, List.set_cons_succ]
              refine wpAnyH_take (i := 6) (v := .pointer (some ⟨B2, 1, none⟩)) rfl (by kernel_rfl) (by kernel_rfl) (by kernel_rfl) (fun _ _ _ h => h) (Or.inl ⟨by rfl, ?_⟩) (by assumption) ?_
              · intro w hSw
                (try dsimp only at hSw)
                go_simp
              try simp only [Act.put, List.setIfInBounds_toArray, List.set_cons_zero, List.set_cons_succ]
              refine wpAnyH_ready (rs := [7]) (by kernel_rfl) (by simp) ?_
              refine AllReadyH.cons rfl (fun K hK => ?_) AllReadyH.nil
              go_simp
              refine hK.out _ _ ?_ (fun hHeld => ?_)
              · trivial
              clear hK K
              try simp only [Act.put, List.setIfInBounds_toArray, List.set_cons_zero, List.set_cons_succ]
              refine wpAnyH_done (by kernel_rfl) ?_ _
              refine NoPanic.normal ?_
              have rr := HQ.out
              have hJ : j < NP := HJ.out
              have r7 := r5.bel hbl (by omega)
              have s7 := H3c.set1 sb2 (.slice pa2 (j + 1) ca2)
              have kb7 : Kb br w (w2.setCell ⟨B2, 1, none⟩ (.slice pa2 (j + 1) ca2)) := kb_set (kb_below kb5 hbl (by omega)) (by omega) _
              have r8 := H3c.far1 r7 ⟨B2, 1, none⟩ n2r (.slice pa2 (j + 1) ca2)
              have og7 : OG FLV 71 (w2.setCell ⟨B2, 1, none⟩ (.slice pa2 (j + 1) ca2)) S (.slice pa2 (j + 1) ca2) (ps.take (j + 1)) := by
                rw [rr.1]
                exact OG.setNe hO (fun g hg => by have := og_block hO g hg; omega) _
              have hS7 : S ≤ (w2.setCell ⟨B2, 1, none⟩ (.slice pa2 (j + 1) ca2)).heap.size := by simp; omega
              rw [show 6 + 16 * j + 16 = 6 + 16 * (j + 1) from by omega] at r8
              clear hO hbl hsz2 hfar sb2 r7 r5 s5 og5 kb5 rr hq5 HQ
              go_wp2
              exact ⟨⟨j + 1, pa2, ca2, by go_num, hJ, r8, s7, og7, kb7, hS7⟩, by simp [intOf]; omega⟩
            · go_simp
              refine hK.out _ _ ?_ (fun hHeld => ?_)
              · trivial
              clear hK K
              try simp only [Act.put, List.setIfInBounds_toArray, List.set_cons_zero, List.set_cons_succ]
              refine wpAnyH_ready (rs := [1]) (by kernel_rfl) (by simp) ?_
              refine AllReadyH.cons rfl (fun K hK => ?_) AllReadyH.nil
              go_simp
              refine hK.out _ _ ?_ (fun hHeld => ?_)
              · trivial
              clear hK K
              try simp only [Act.put, List.setIfInBounds_toArray, List.set_cons_zero, List.set_cons_succ]
              refine wpAnyH_ready (rs := [5]) (by kernel_rfl) (by simp) ?_
              refine AllReadyH.cons rfl (fun K hK => ?_) AllReadyH.nil
              refine if_app2 (by rfl) _ _ 29 rfl _ _ rfl rfl (appF_ w5 _ S hS5 (by (repeat (first | exact Kp.refl _ | apply Kp.drew | apply Kp.alloc)); done) (.slice pa j ca) (ps.take j) w5.heap.size Y1 Y2 1 og5 (by simp [go_sem]) (by simp [go_sem]) HQ.out.2.2) ?_
              rintro v' w2 ⟨hO, hbl, hsz2, hfar⟩
              obtain ⟨pa2, ca2, rfl⟩ := OG.arrN hO HQ.out.2.1
              have sb2 := s5.bel hbl (by omega)
              obtain ⟨m0, m1, m2, m3, m4, m5⟩ := id sb2
              have hq5 := 0
              refine hK.out _ _ ?_ (fun hHeld => ?_)
              · trivial
              clear hK K
              try simp only [Act.put, List.setIfInBounds_toArray, List.set_cons_zero, List.set_cons_succ]
              refine wpAnyH_take (i := 6) (v := .pointer (some ⟨B2, 1, none⟩)) rfl (by kernel_rfl) (by kernel_rfl) (by kernel_rfl) (fun _ _ _ h => h) (Or.inl ⟨by rfl, ?_⟩) (by assumption) ?_
              · intro w hSw
                (try dsimp only at hSw)
                go_simp
              try simp only [Act.put, List.setIfInBounds_toArray, List.set_cons_zero, List.set_cons_succ]
              refine wpAnyH_ready (rs := [7]) (by kernel_rfl) (by simp) ?_
              refine AllReadyH.cons rfl (fun K hK => ?_) AllReadyH.nil
              go_simp
              refine hK.out _ _ ?_ (fun hHeld => ?_)
              · trivial
              clear hK K
              try simp only [Act.put, List.setIfInBounds_toArray, List.set_cons_zero, List.set_cons_succ]
              refine wpAnyH_done (by kernel_rfl) ?_ _
              refine NoPanic.normal ?_
              have rr := HQ.out
              have hJ : j < NP := HJ.out
              have r7 := r5.bel hbl (by omega)
              have s7 := H3c.set1 sb2 (.slice pa2 (j + 1) ca2)
              have kb7 : Kb br w (w2.setCell ⟨B2, 1, none⟩ (.slice pa2 (j + 1) ca2)) := kb_set (kb_below kb5 hbl (by omega)) (by omega) _
              have r8 := H3c.far1 r7 ⟨B2, 1, none⟩ n2r (.slice pa2 (j + 1) ca2)
              have og7 : OG FLV 71 (w2.setCell ⟨B2, 1, none⟩ (.slice pa2 (j + 1) ca2)) S (.slice pa2 (j + 1) ca2) (ps.take (j + 1)) := by
                rw [rr.1]
                exact OG.setNe hO (fun g hg => by have := og_block hO g hg; omega) _
              have hS7 : S ≤ (w2.setCell ⟨B2, 1, none⟩ (.slice pa2 (j + 1) ca2)).heap.size := by simp; omega
              rw [show 6 + 16 * j + 16 = 6 + 16 * (j + 1) from by omega] at r8
              clear hO hbl hsz2 hfar sb2 r7 r5 s5 og5 kb5 rr hq5 HQ
              go_wp2
              exact ⟨⟨j + 1, pa2, ca2, by go_num, hJ, r8, s7, og7, kb7, hS7⟩, by simp [intOf]; omega⟩
        · have hjN : j = NP := by omega
          subst hjN
          rw [show ps.take j = ps from List.take_of_length_le (by have := HN.out.2.2.2.2.1; omega)] at og
          have hpa := og_lt og
          have hpb := og_block og
          clear hcon0
          go_upto_region 12 with (first | (go_at_call 22; refine (codeBounds_ _).mono ?_; rintro e w5 ⟨rfl, g5⟩; replace r1 := r1.keep g5; replace s2 := s2.keep g5; replace og := og.kp g5; replace kb := kb_trans kb (kb_kp g5); replace hb1 := hb1.kp g5; have hg5 := g5.size; have hw9 := hwM w5 r1 hb1) | (go_at_call 54; refine hw9.mono ?_; rintro e w6 ⟨rfl, r6, k6⟩; replace s2 := H3c.kb s2 k6 n2r; replace kb := kb_trans kb k6; replace og := OG.kb og k6 (fun g hg => by have := hpb g hg; have := HSS.out; omega)))
          obtain ⟨hz1, hz2, hz3, hz4, hz5⟩ := HSS.out
          obtain ⟨S2, hS2⟩ : ∃ S2, S2 = w6.heap.size := ⟨_, rfl⟩
          have hk6 := k6.2.2.2.1
          have hpaS2 : ∀ g, (Value.slice pa j ca).ownBlock = some g → g < S2 := fun g hg => by have := hpa g hg; omega
          have hpaS : ∀ g, (Value.slice pa j ca).ownBlock = some g → S ≤ g := hpb
          have hSS : S ≤ S2 := by omega
          have HS : Hid (H3c w6 br (.slice (some ⟨g, 0, none⟩) N c) (.int .i64 ((6 + 16 * j + 2 + ((L.take 0).flatMap lnB).length : Nat) : Int)) (.bool false) ∧ H3c w6 B2 (.int .i64 V) (.slice pa j ca) (.slice none 0 0) ∧ OG FLV 71 w6 S (.slice pa j ca) ps ∧ OI 62 w6 S2 (.slice none 0 0) (L.take 0) ∧ Kb br w w6 ∧ S2 ≤ w6.heap.size) := ⟨r6, s2, og, OI.nil _ _ _, kb, by rw [hS2]; exact Nat.le_refl _⟩
          clear r6 s2 og kb hS2 hw9 hwM hb1 kd hS hpa hpb hk6 hg5 r1 k6 cj hj
          obtain ⟨NP, hNPe⟩ : ∃ NP, NP = j := ⟨_, rfl⟩
          go_loopw [5, 41] (fun s5 s41 wr => ∃ (i : Nat) (pb : Option Addr) (cb : Nat), s41 = .int .i64 i ∧ i ≤ M ∧ H3c wr br (.slice (some ⟨g, 0, none⟩) N c) (.int .i64 ((6 + 16 * j + 2 + ((L.take i).flatMap lnB).length : Nat) : Int)) (.bool false) ∧ H3c wr B2 (.int .i64 V) (.slice pa j ca) (.slice pb i cb) ∧ OG FLV 71 wr S (.slice pa j ca) ps ∧ OI 62 wr S2 (.slice pb i cb) (L.take i) ∧ Kb br w wr ∧ S2 ≤ wr.heap.size) (fun _ s41 _ => M - (intOf s41).toNat)
          case atStart => exact ⟨0, none, 0, rfl, Nat.zero_le _, HS.out⟩
          case round =>
            clear HS
            obtain ⟨i, pb, cb, rfl, hi, r1, s2, og, oi, kb, hS⟩ := hrel
            have hb1 : BY wr g xs := HN.out.1.kb kb HN.out.2.1
            have kd : Kp wr wr.drew := (Kp.refl wr).drew
            by_cases ci : i < M
            · have HJ : Hid (i < M) := ci
              have hcon := hlin0 i ci wr.drew (r1.keep kd) (hb1.kp kd)
              have htp := take_push5 L i (by have := HN.out.2.2.2.2.2.1; omega)
              have htl : (L.take i).length = i := by rw [List.length_take]; have := HN.out.2.2.2.2.2.1; omega
              obtain ⟨XX, hXX⟩ : ∃ XX, XX = L.getD i D5 := ⟨_, rfl⟩
              rw [← hXX] at hcon htp
              obtain ⟨x0, x1, x2, x3, x4⟩ := XX
              simp only at hcon
              have HQ : Hid (L.take (i + 1) = L.take i ++ [(x0, x1, x2, x3, x4)] ∧ (L.take i ++ [(x0, x1, x2, x3, x4)]).length = i + 1 ∧ (L.take i).length + 1 ≤ 1048576) := ⟨htp.symm, by rw [List.length_append, htl]; rfl, by have := HN.out.2.2.2.2.2.2.2.1; omega⟩
              have s2d := s2.keep kd
              have ogd := og.kp kd
              have oid := oi.kp kd
              have kbd : Kb br w wr.drew := kb_trans kb (kb_kp kd)
              have hSd : S2 ≤ wr.drew.heap.size := hS
              obtain ⟨d0, d1, d2, d3, d4, d5⟩ := id s2d
              clear hXX htp htl hlin0 s2 og oi r1 hb1 kd hS kb
              go_upto_region 14 with fail
              refine wp_region_noPanic ?_
              refine wp_region_held_drew (S := (fun w' => w'.cell? ⟨B2, 0, none⟩ = some (.int .i64 V) ∧ w'.cell? ⟨B2, 1, none⟩ = some (.slice pa j ca))) (by kernel_rfl) ?_ (fun hHeld => ?_)
              · exact ⟨d0, d1⟩
              refine wpAnyH_take (i := 0) (v := .pointer (some ⟨B2, 2, none⟩)) rfl (by kernel_rfl) (by kernel_rfl) (by kernel_rfl) (fun _ _ _ h => h) (Or.inl ⟨by rfl, ?_⟩) (by assumption) ?_
              · intro w hSw
                (try dsimp only at hSw)
                go_simp
              try simp only [Act.put, List.setIfInBounds_toArray, List.set_cons_zero, List.set_cons_succ]
              refine wpAnyH_take (i := 2) (v := .pointer (some ⟨br, 0, none⟩)) rfl (by kernel_rfl) (by kernel_rfl) (by kernel_rfl) (fun _ _ _ h => h) (Or.inl ⟨by rfl, ?_⟩) (by assumption) ?_
              · intro w hSw
                (try dsimp only at hSw)
                go_simp
              try simp only [Act.put, List.setIfInBounds_toArray, List.set_cons_zero, List.set_cons_succ]
              refine wpAnyH_take (i := 3) (v := .pointer (some ⟨B2, 0, none⟩)) rfl (by kernel_rfl) (by kernel_rfl) (by kernel_rfl) (fun _ _ _ h => h) (Or.inl ⟨by rfl, ?_⟩) (by assumption) ?_
              · intro w hSw
                (try dsimp only at hSw)
                go_simp
              try simp only [Act.put, List.setIfInBounds_toArray, List.set_cons_zero, List.set_cons_succ]
              refine wpAnyH_take (i := 4) (v := .int .i64 V) rfl (by kernel_rfl) (by kernel_rfl) (by kernel_rfl) (fun _ _ _ h => h) (Or.inl ⟨by rfl, ?_⟩) (by assumption) ?_
              · intro w hSw
                (try dsimp only at hSw)
                go_simp
              try simp only [Act.put, List.setIfInBounds_toArray, List.set_cons_zero, List.set_cons_succ]
              refine wpAnyH_take (i := 5) (v := .int .i64 (i : Int)) rfl (by kernel_rfl) (by kernel_rfl) (by kernel_rfl) (fun _ _ _ h => h) (Or.inl ⟨by rfl, ?_⟩) (by assumption) ?_
              · intro w hSw
                (try dsimp only at hSw)
                go_simp
              try simp only [Act.put, List.setIfInBounds_toArray, List.set_cons_zero, List.set_cons_succ]
              refine wpAnyH_take (i := 6) (v := .pointer (some ⟨B2, 1, none⟩)) rfl (by kernel_rfl) (by kernel_rfl) (by kernel_rfl) (fun _ _ _ h => h) (Or.inl ⟨by rfl, ?_⟩) (by assumption) ?_
              · intro w hSw
                (try dsimp only at hSw)
                go_simp
              try simp only [Act.put, List.setIfInBounds_toArray, List.set_cons_zero, List.set_cons_succ]
              refine wpAnyH_take (i := 7) (v := .slice pa j ca) rfl (by kernel_rfl) (by kernel_rfl) (by kernel_rfl) (fun _ _ _ h => h) (Or.inl ⟨by rfl, ?_⟩) (by assumption) ?_
              · intro w hSw
                (try dsimp only at hSw)
                go_simp
              try simp only [Act.put, List.setIfInBounds_toArray, List.set_cons_zero, List.set_cons_succ]
              refine wpAnyH_take (i := 8) (v := .int .i64 (j : Int)) rfl (by kernel_rfl) (by kernel_rfl) (by kernel_rfl) (fun _ _ _ h => h) (Or.inl ⟨by rfl, ?_⟩) (by assumption) ?_
              · intro w hSw
                (try dsimp only at hSw)
                go_simp
              try simp only [Act.put, List.setIfInBounds_toArray, List.set_cons_zero, List.set_cons_succ]
              refine wpAnyH_ready (rs := [1, 9]) (by kernel_rfl) (by simp) ?_
              refine AllReadyH.cons rfl (fun K hK => ?_) (AllReadyH.cons rfl (fun K hK => ?_) AllReadyH.nil)
              · go_simp
                refine hK.out _ _ ?_ (fun hHeld => ?_)
                · exact ⟨d0, d1⟩
                clear hK K
                try simp only [Act.put, List.setIfInBounds_toArray, List.set_cons_zero, List.set_cons_succ]
                refine wpAnyH_ready (rs := [9]) (by kernel_rfl) (by simp) ?_
                refine AllReadyH.cons rfl (fun K hK => ?_) AllReadyH.nil
                go_simp
                refine hcon.mono ?_
                rintro e9 w5 ⟨rfl, r5, k5⟩
                have s5 := H3c.kb s2d k5 n2r
                have og5 := OG.kb ogd k5 (fun g hg => by have := hpaS g hg; omega)
                have oi5 := OI.kb oid k5 (fun g hg => by have := oi_block oid g hg; omega)
                have kb5 := kb_trans kbd k5
                have hS5 : S2 ≤ w5.heap.size := Nat.le_trans hSd k5.2.2.2.1
                have s5n := s5.keep ((Kp.refl w5).alloc (.cells #[.int .i64 x0, .int .i64 x1, .int .i64 x2, .int .i64 x3, .int .i64 x4] 62))
                obtain ⟨e0, e1, e2, e3, e4, e5⟩ := id s5
                obtain ⟨l0, l1, l2, l3, l4, l5⟩ := id s5n
                go_wp2_with fail
                refine hK.out _ _ ?_ (fun hHeld => ?_)
                · exact ⟨e0, e1⟩
                clear hK K
                try simp only [Act.put, List.setIfInBounds_toArray, List.set_cons_zero, List.set_cons_succ]
                refine wpAnyH_ready (rs := [10]) (by kernel_rfl) (by simp) ?_
                refine AllReadyH.cons rfl (fun K hK => ?_) AllReadyH.nil
                go_simp
                refine hK.out _ _ ?_ (fun hHeld => ?_)
                · first | exact ⟨l0, l1⟩ | exact ⟨kkeep (W := w5) (by (repeat (first | with_reducible exact Kp.refl _ | with_reducible apply Kp.drew | with_reducible apply Kp.alloc)); done) e0, kkeep (W := w5) (by (repeat (first | with_reducible exact Kp.refl _ | with_reducible apply Kp.drew | with_reducible apply Kp.alloc)); done) e1⟩
                clear hK K
                try simp only [Act.put, List.setIfInBounds_toArray, List.set_cons_zero, List.set_cons_succ]
                refine wpAnyH_ready (rs := [11]) (by kernel_rfl) (by simp) ?_
                refine AllReadyH.cons rfl (fun K hK => ?_) AllReadyH.nil
                refine if_app2 (by rfl) _ _ 30 rfl _ _ rfl rfl (appN_ w5 _ S2 hS5 (by (repeat (first | exact Kp.refl _ | apply Kp.drew | apply Kp.alloc)); done) (.slice pb i cb) (L.take i) w5.heap.size 1 (x0, x1, x2, x3, x4) oi5 (by simp [go_sem]) (by simp [go_sem]) (by simp [go_sem]) (by simp [go_sem]) (by simp [go_sem]) HQ.out.2.2) ?_
                rintro v' w2 ⟨hO, hbl, hsz2⟩
                obtain ⟨pb2, cb2, rfl⟩ := OI.arrN hO HQ.out.2.1
                have sb2 := s5.bel hbl (by omega)
                obtain ⟨m0, m1, m2, m3, m4, m5⟩ := id sb2
                have s2s := H3c.set2 sb2 (.slice pb2 (i + 1) cb2)
                obtain ⟨o0, o1, o2, o3, o4, o5⟩ := id s2s
                refine hK.out _ _ ?_ (fun hHeld => ?_)
                · exact ⟨m0, m1⟩
                clear hK K
                try simp only [Act.put, List.setIfInBounds_toArray, List.set_cons_zero, List.set_cons_succ]
                refine wpAnyH_take (i := 12) (v := .pointer (some ⟨B2, 2, none⟩)) rfl (by kernel_rfl) (by kernel_rfl) (by kernel_rfl) (fun _ _ _ h => h) (Or.inl ⟨by rfl, ?_⟩) (by assumption) ?_
                · intro w hSw
                  (try dsimp only at hSw)
                  go_simp
                try simp only [Act.put, List.setIfInBounds_toArray, List.set_cons_zero, List.set_cons_succ]
                refine wpAnyH_ready (rs := [13]) (by kernel_rfl) (by simp) ?_
                refine AllReadyH.cons rfl (fun K hK => ?_) AllReadyH.nil
                go_simp
                refine hK.out _ _ ?_ (fun hHeld => ?_)
                · exact ⟨o0, o1⟩
                clear hK K
                try simp only [Act.put, List.setIfInBounds_toArray, List.set_cons_zero, List.set_cons_succ]
                refine wpAnyH_done (by kernel_rfl) ?_ _
                refine NoPanic.normal ?_
                have rr := HQ.out
                have hJ : i < M := HJ.out
                have r7 := r5.bel hbl (by omega)
                have kb7 : Kb br w (w2.setCell ⟨B2, 2, none⟩ (.slice pb2 (i + 1) cb2)) := kb_set (kb_below kb5 hbl (by omega)) (by omega) _
                have r8 := H3c.far1 r7 ⟨B2, 2, none⟩ n2r (.slice pb2 (i + 1) cb2)
                have og7 := OG.setNe (OG.bel og5 hbl hpaS2) (b := B2) (o := 2) (fun g hg => by have := hpaS g hg; omega) (.slice pb2 (i + 1) cb2)
                have oi7 : OI 62 (w2.setCell ⟨B2, 2, none⟩ (.slice pb2 (i + 1) cb2)) S2 (.slice pb2 (i + 1) cb2) (L.take (i + 1)) := by
                  rw [rr.1]
                  exact OI.setNe hO (fun g hg => by have := oi_block hO g hg; omega) _
                have hS7 : S2 ≤ (w2.setCell ⟨B2, 2, none⟩ (.slice pb2 (i + 1) cb2)).heap.size := by simp; omega
                clear hO hbl hsz2 sb2 r7 r5 s5 og5 oi5 kb5 rr HQ
                go_wp2
                exact ⟨⟨i + 1, pb2, cb2, by go_num, hJ, r8, s2s, og7, oi7, kb7, hS7⟩, by simp [intOf]; omega⟩
              · go_simp
                refine hcon.mono ?_
                rintro e9 w5 ⟨rfl, r5, k5⟩
                have s5 := H3c.kb s2d k5 n2r
                have og5 := OG.kb ogd k5 (fun g hg => by have := hpaS g hg; omega)
                have oi5 := OI.kb oid k5 (fun g hg => by have := oi_block oid g hg; omega)
                have kb5 := kb_trans kbd k5
                have hS5 : S2 ≤ w5.heap.size := Nat.le_trans hSd k5.2.2.2.1
                have s5n := s5.keep ((Kp.refl w5).alloc (.cells #[.int .i64 x0, .int .i64 x1, .int .i64 x2, .int .i64 x3, .int .i64 x4] 62))
                obtain ⟨e0, e1, e2, e3, e4, e5⟩ := id s5
                obtain ⟨l0, l1, l2, l3, l4, l5⟩ := id s5n
                go_wp2_with fail
                refine hK.out _ _ ?_ (fun hHeld => ?_)
                · exact ⟨e0, e1⟩
                clear hK K
                try simp only [Act.put, List.setIfInBounds_toArray, List.set_cons_zero, List.set_cons_succ]
                refine wpAnyH_ready (rs := [1, 10]) (by kernel_rfl) (by simp) ?_
                refine AllReadyH.cons rfl (fun K hK => ?_) (AllReadyH.cons rfl (fun K hK => ?_) AllReadyH.nil)
                · go_simp
                  refine hK.out _ _ ?_ (fun hHeld => ?_)
                  · exact ⟨e0, e1⟩
                  clear hK K
                  try simp only [Act.put, List.setIfInBounds_toArray, List.set_cons_zero, List.set_cons_succ]
                  refine wpAnyH_ready (rs := [10]) (by kernel_rfl) (by simp) ?_
                  refine AllReadyH.cons rfl (fun K hK => ?_) AllReadyH.nil
                  go_simp
                  refine hK.out _ _ ?_ (fun hHeld => ?_)
                  · first | exact ⟨l0, l1⟩ | exact ⟨kkeep (W := w5) (by (repeat (first | with_reducible exact Kp.refl _ | with_reducible apply Kp.drew | with_reducible apply Kp.alloc)); done) e0, kkeep (W := w5) (by (repeat (first | with_reducible exact Kp.refl _ | with_reducible apply Kp.drew | with_reducible apply Kp.alloc)); done) e1⟩
                  clear hK K
                  try simp only [Act.put, List.setIfInBounds_toArray, List.set_cons_zero, List.set_cons_succ]
                  refine wpAnyH_ready (rs := [11]) (by kernel_rfl) (by simp) ?_
                  refine AllReadyH.cons rfl (fun K hK => ?_) AllReadyH.nil
                  refine if_app2 (by rfl) _ _ 30 rfl _ _ rfl rfl (appN_ w5 _ S2 hS5 (by (repeat (first | exact Kp.refl _ | apply Kp.drew | apply Kp.alloc)); done) (.slice pb i cb) (L.take i) w5.heap.size 1 (x0, x1, x2, x3, x4) oi5 (by simp [go_sem]) (by simp [go_sem]) (by simp [go_sem]) (by simp [go_sem]) (by simp [go_sem]) HQ.out.2.2) ?_
                  rintro v' w2 ⟨hO, hbl, hsz2⟩
                  obtain ⟨pb2, cb2, rfl⟩ := OI.arrN hO HQ.out.2.1
                  have sb2 := s5.bel hbl (by omega)
                  obtain ⟨m0, m1, m2, m3, m4, m5⟩ := id sb2
                  have s2s := H3c.set2 sb2 (.slice pb2 (i + 1) cb2)
                  obtain ⟨o0, o1, o2, o3, o4, o5⟩ := id s2s
                  refine hK.out _ _ ?_ (fun hHeld => ?_)
                  · exact ⟨m0, m1⟩
                  clear hK K
                  try simp only [Act.put, List.setIfInBounds_toArray, List.set_cons_zero, List.set_cons_succ]
                  refine wpAnyH_take (i := 12) (v := .pointer (some ⟨B2, 2, none⟩)) rfl (by kernel_rfl) (by kernel_rfl) (by kernel_rfl) (fun _ _ _ h => h) (Or.inl ⟨by rfl, ?_⟩) (by assumption) ?_
                  · intro w hSw
                    (try dsimp only at hSw)
                    go_simp
                  try simp only [Act.put, List.setIfInBounds_toArray, List.set_cons_zero, List.set_cons_succ]
                  refine wpAnyH_ready (rs := [13]) (by kernel_rfl) (by simp) ?_
                  refine AllReadyH.cons rfl (fun K hK => ?_) AllReadyH.nil
                  go_simp
                  refine hK.out _ _ ?_ (fun hHeld => ?_)
                  · exact ⟨o0, o1⟩
                  clear hK K
                  try simp only [Act.put, List.setIfInBounds_toArray, List.set_cons_zero, List.set_cons_succ]
                  refine wpAnyH_done (by kernel_rfl) ?_ _
                  refine NoPanic.normal ?_
                  have rr := HQ.out
                  have hJ : i < M := HJ.out
                  have r7 := r5.bel hbl (by omega)
                  have kb7 : Kb br w (w2.setCell ⟨B2, 2, none⟩ (.slice pb2 (i + 1) cb2)) := kb_set (kb_below kb5 hbl (by omega)) (by omega) _
                  have r8 := H3c.far1 r7 ⟨B2, 2, none⟩ n2r (.slice pb2 (i + 1) cb2)
                  have og7 := OG.setNe (OG.bel og5 hbl hpaS2) (b := B2) (o := 2) (fun g hg => by have := hpaS g hg; omega) (.slice pb2 (i + 1) cb2)
                  have oi7 : OI 62 (w2.setCell ⟨B2, 2, none⟩ (.slice pb2 (i + 1) cb2)) S2 (.slice pb2 (i + 1) cb2) (L.take (i + 1)) := by
                    rw [rr.1]
                    exact OI.setNe hO (fun g hg => by have := oi_block hO g hg; omega) _
                  have hS7 : S2 ≤ (w2.setCell ⟨B2, 2, none⟩ (.slice pb2 (i + 1) cb2)).heap.size := by simp; omega
                  clear hO hbl hsz2 sb2 r7 r5 s5 og5 oi5 kb5 rr HQ
                  go_wp2
                  exact ⟨⟨i + 1, pb2, cb2, by go_num, hJ, r8, s2s, og7, oi7, kb7, hS7⟩, by simp [intOf]; omega⟩
                · go_simp
                  refine hK.out _ _ ?_ (fun hHeld => ?_)
                  · first | exact ⟨l0, l1⟩ | exact ⟨kkeep (W := w5) (by (repeat (first | with_reducible exact Kp.refl _ | with_reducible apply Kp.drew | with_reducible apply Kp.alloc)); done) e0, kkeep (W := w5) (by (repeat (first | with_reducible exact Kp.refl _ | with_reducible apply Kp.drew | with_reducible apply Kp.alloc)); done) e1⟩
                  clear hK K
                  try simp only [Act.put, List.setIfInBounds_toArray, List.set_cons_zero, List.set_cons_succ]
                  refine wpAnyH_ready (rs := [1]) (by kernel_rfl) (by simp) ?_
                  refine AllReadyH.cons rfl (fun K hK => ?_) AllReadyH.nil
                  go_simp
                  refine hK.out _ _ ?_ (fun hHeld => ?_)
                  · first | exact ⟨l0, l1⟩ | exact ⟨kkeep (W := w5) (by (repeat (first | with_reducible exact Kp.refl _ | with_reducible apply Kp.drew | with_reducible apply Kp.alloc)); done) e0, kkeep (W := w5) (by (repeat (first | with_reducible exact Kp.refl _ | with_reducible apply Kp.drew | with_reducible apply Kp.alloc)); done) e1⟩
                  clear hK K
                  try simp only [Act.put, List.setIfInBounds_toArray, List.set_cons_zero, List.set_cons_succ]
                  refine wpAnyH_ready (rs := [11]) (by kernel_rfl) (by simp) ?_
                  refine AllReadyH.cons rfl (fun K hK => ?_) AllReadyH.nil
                  refine if_app2 (by rfl) _ _ 30 rfl _ _ rfl rfl (appN_ w5 _ S2 hS5 (by (repeat (first | exact Kp.refl _ | apply Kp.drew | apply Kp.alloc)); done) (.slice pb i cb) (L.take i) w5.heap.size 1 (x0, x1, x2, x3, x4) oi5 (by simp [go_sem]) (by simp [go_sem]) (by simp [go_sem]) (by simp [go_sem]) (by simp [go_sem]) HQ.out.2.2) ?_
                  rintro v' w2 ⟨hO, hbl, hsz2⟩
                  obtain ⟨pb2, cb2, rfl⟩ := OI.arrN hO HQ.out.2.1
                  have sb2 := s5.bel hbl (by omega)
                  obtain ⟨m0, m1, m2, m3, m4, m5⟩ := id sb2
                  have s2s := H3c.set2 sb2 (.slice pb2 (i + 1) cb2)
                  obtain ⟨o0, o1, o2, o3, o4, o5⟩ := id s2s
                  refine hK.out _ _ ?_ (fun hHeld => ?_)
                  · exact ⟨m0, m1⟩
                  clear hK K
                  try simp only [Act.put, List.setIfInBounds_toArray, List.set_cons_zero, List.set_cons_succ]
                  refine wpAnyH_take (i := 12) (v := .pointer (some ⟨B2, 2, none⟩)) rfl (by kernel_rfl) (by kernel_rfl) (by kernel_rfl) (fun _ _ _ h => h) (Or.inl ⟨by rfl, ?_⟩) (by assumption) ?_
                  · intro w hSw
                    (try dsimp only at hSw)
                    go_simp
                  try simp only [Act.put, List.setIfInBounds_toArray, List.set_cons_zero, List.set_cons_succ]
                  refine wpAnyH_ready (rs := [13]) (by kernel_rfl) (by simp) ?_
                  refine AllReadyH.cons rfl (fun K hK => ?_) AllReadyH.nil
                  go_simp
                  refine hK.out _ _ ?_ (fun hHeld => ?_)
                  · exact ⟨o0, o1⟩
                  clear hK K
                  try simp only [Act.put, List.setIfInBounds_toArray, List.set_cons_zero, List.set_cons_succ]
                  refine wpAnyH_done (by kernel_rfl) ?_ _
                  refine NoPanic.normal ?_
                  have rr := HQ.out
                  have hJ : i < M := HJ.out
                  have r7 := r5.bel hbl (by omega)
                  have kb7 : Kb br w (w2.setCell ⟨B2, 2, none⟩ (.slice pb2 (i + 1) cb2)) := kb_set (kb_below kb5 hbl (by omega)) (by omega) _
                  have r8 := H3c.far1 r7 ⟨B2, 2, none⟩ n2r (.slice pb2 (i + 1) cb2)
                  have og7 := OG.setNe (OG.bel og5 hbl hpaS2) (b := B2) (o := 2) (fun g hg => by have := hpaS g hg; omega) (.slice pb2 (i + 1) cb2)
                  have oi7 : OI 62 (w2.setCell ⟨B2, 2, none⟩ (.slice pb2 (i + 1) cb2)) S2 (.slice pb2 (i + 1) cb2) (L.take (i + 1)) := by
                    rw [rr.1]
                    exact OI.setNe hO (fun g hg => by have := oi_block hO g hg; omega) _
                  have hS7 : S2 ≤ (w2.setCell ⟨B2, 2, none⟩ (.slice pb2 (i + 1) cb2)).heap.size := by simp; omega
                  clear hO hbl hsz2 sb2 r7 r5 s5 og5 oi5 kb5 rr HQ
                  go_wp2
                  exact ⟨⟨i + 1, pb2, cb2, by go_num, hJ, r8, s2s, og7, oi7, kb7, hS7⟩, by simp [intOf]; omega⟩
            · have hiM : i = M := by omega
              rw [show L.take i = L from List.take_of_length_le (by have := HN.out.2.2.2.2.2.1; omega)] at r1 oi
              have hN9 := HN.out.2.2.2.2.2.2.2.2
              rw [hN9] at r1
              subst hiM
              obtain ⟨p0, p1, p2, p3, p4, p5⟩ := id s2
              clear hlin0 hb1 kd
              go_wp2
              have hog := og_sets3 og (b := B2) (fun g hg => by have := hpaS g hg; omega) (.int .i64 V) (.slice pa j ca) (.slice pb i cb)
              have hoi := oi_sets3 oi (b := B2) (fun g hg => by have := oi_block oi g hg; omega) (.int .i64 V) (.slice pa j ca) (.slice pb i cb)
              exact bodyPost_ret (v := .agg #[.int .i64 V, .slice pa j ca, .slice pb i cb]) (by simp [results, Try.results34, go_sem, p0, p1, p2]) rfl ⟨pa, ca, pb, cb, rfl, hog.mono hz4, hoi.mono (Nat.le_trans hz4 hSS), H3c.far1 (H3c.far1 (H3c.far1 r1 _ n2r _) _ n2r _) _ n2r _, kb_set (kb_set (kb_set kb hz5 _) hz5 _) hz5 _⟩
end X7
end Go.Proofs.Ytipedmnipolmeaa
namespace Go.Proofs.Ytipedmnipolmeaa
open Go.RowKit
open Go
namespace X7
set_option linter.unusedVariables false
open B8
set_option maxRecDepth 20000 in
set_option maxHeartbeats 2000000 in
theorem decode_ (g N c : Nat) (xs : List Int) (V : Int) (ps : List (Nat × Nat)) (L : List I5) (hch : (chk V ps L).2 = 0) (hwq : Wq ps) (hxs : xs = enc V ps L) (hxN : N = xs.length) (hNc : N ≤ c) (hN : N ≤ 1048576) (w : World) (hb : BY w g xs) (hgl : g < w.heap.size) :
    Calls Try.prog 13 #[.slice (some ⟨g, 0, none⟩) N c] w fun e w' => ∃ pa ca pb cb, e = .returned (.tuple #[.agg #[.int .i64 V, .slice pa ps.length ca, .slice pb L.length cb], .int .i64 0, .int .i64 0]) ∧ AG FLV w' pa ps ∧ AI w' pb L ∧ Kp w w' := by
  have kA : Kp w ((w.alloc (.cells #[.int .i64 0, .slice none 0 0, .slice none 0 0] 32)).alloc (.cells #[.slice (some ⟨g, 0, none⟩) N c, .int .i64 0, .bool false] 94)) := ((Kp.refl w).alloc _).alloc _
  have s2 : H3c ((w.alloc (.cells #[.int .i64 0, .slice none 0 0, .slice none 0 0] 32)).alloc (.cells #[.slice (some ⟨g, 0, none⟩) N c, .int .i64 0, .bool false] 94)) w.heap.size (.int .i64 0) (.slice none 0 0) (.slice none 0 0) := H3c.keep (H3c.new w (.int .i64 0) (.slice none 0 0) (.slice none 0 0) 32) ((Kp.refl _).alloc _)
  have r0 : H3c ((w.alloc (.cells #[.int .i64 0, .slice none 0 0, .slice none 0 0] 32)).alloc (.cells #[.slice (some ⟨g, 0, none⟩) N c, .int .i64 0, .bool false] 94)) (w.heap.size + 1) (.slice (some ⟨g, 0, none⟩) N c) (.int .i64 0) (.bool false) := by
    have h := H3c.new (w.alloc (.cells #[.int .i64 0, .slice none 0 0, .slice none 0 0] 32)) (.slice (some ⟨g, 0, none⟩) N c) (.int .i64 0) (.bool false) 94
    rw [show (w.alloc (.cells #[.int .i64 0, .slice none 0 0, .slice none 0 0] 32)).heap.size = w.heap.size + 1 from by simp] at h
    exact h
  have hsz : ((w.alloc (.cells #[.int .i64 0, .slice none 0 0, .slice none 0 0] 32)).alloc (.cells #[.slice (some ⟨g, 0, none⟩) N c, .int .i64 0, .bool false] 94)).heap.size = w.heap.size + 2 := by simp
  have hpr := rprogram_ (w.heap.size + 1) g N c xs V ps L hch hwq hxs hxN hNc hN (by omega) ((w.alloc (.cells #[.int .i64 0, .slice none 0 0, .slice none 0 0] 32)).alloc (.cells #[.slice (some ⟨g, 0, none⟩) N c, .int .i64 0, .bool false] 94)) r0 (hb.kp kA) (by omega)
  have hen := fun W => rend_ (w.heap.size + 1) g N c hN W
  have HZ : Hid (((w.alloc (.cells #[.int .i64 0, .slice none 0 0, .slice none 0 0] 32)).alloc (.cells #[.slice (some ⟨g, 0, none⟩) N c, .int .i64 0, .bool false] 94)).heap.size = w.heap.size + 2) := hsz
  have hN9 : N ≤ 1048576 := hN
  generalize ps.length = NP at hpr ⊢
  generalize L.length = M at hpr ⊢
  clear hch hwq hxs hxN hNc hN hb hgl r0 hsz
  go_enter Try.func13, Try.ntmps13
  go_upto_region 2 with fail
  generalize ((w.alloc (.cells #[.int .i64 0, .slice none 0 0, .slice none 0 0] 32)).alloc (.cells #[.slice (some ⟨g, 0, none⟩) N c, .int .i64 0, .bool false] 94)) = W1 at kA s2 hpr HZ ⊢
  have n2r : w.heap.size ≠ w.heap.size + 1 := by omega
  obtain ⟨p0, p1, p2, p3, p4, p5⟩ := id s2
  go_upto_region 3 with (first | (go_at_call 34; refine hpr.mono ?_; rintro e w2 ⟨pa, ca, pb, cb, rfl, og, oi, r2, k2⟩; replace s2 := H3c.kb s2 k2 n2r; clear p0 p1 p2 p3 p4 p5; obtain ⟨p0, p1, p2, p3, p4, p5⟩ := id s2))
  have s3 := H3c.put s2 (.int .i64 V) (.slice pa NP ca) (.slice pb M cb)
  have og3 := og_sets3 og (b := w.heap.size) (fun g hg => by have h1 := og_block og g hg; have h2 := HZ.out; omega) (.int .i64 V) (.slice pa NP ca) (.slice pb M cb)
  have oi3 := oi_sets3 oi (b := w.heap.size) (fun g hg => by have h1 := oi_block oi g hg; have h2 := HZ.out; omega) (.int .i64 V) (.slice pa NP ca) (.slice pb M cb)
  have r3 := H3c.far1 (H3c.far1 (H3c.far1 r2 ⟨w.heap.size, 0, none⟩ n2r (.int .i64 V)) ⟨w.heap.size, 1, none⟩ n2r (.slice pa NP ca)) ⟨w.heap.size, 2, none⟩ n2r (.slice pb M cb)
  have k3 : Kp w (((w2.setCell ⟨w.heap.size, 0, none⟩ (.int .i64 V)).setCell ⟨w.heap.size, 1, none⟩ (.slice pa NP ca)).setCell ⟨w.heap.size, 2, none⟩ (.slice pb M cb)) := (((k2.kp kA (by omega)).setCell (Nat.le_refl _) _).setCell (Nat.le_refl _) _).setCell (Nat.le_refl _) _
  have HI : Hid ((∀ g, (Value.slice pa NP ca).ownBlock = some g → g ≠ w.heap.size) ∧ (∀ g, (Value.slice pb M cb).ownBlock = some g → g ≠ w.heap.size)) := ⟨fun g hg => by have h1 := og_block og g hg; have h2 := HZ.out; omega, fun g hg => by have h1 := oi_block oi g hg; have h2 := HZ.out; omega⟩
  clear s2 og oi r2 k2 kA hpr p0 p1 p2 p3 p4 p5
  go_upto_region 3 with fail
  generalize (((w2.setCell ⟨w.heap.size, 0, none⟩ (.int .i64 V)).setCell ⟨w.heap.size, 1, none⟩ (.slice pa NP ca)).setCell ⟨w.heap.size, 2, none⟩ (.slice pb M cb)) = W3 at s3 og3 oi3 r3 k3 ⊢
  have hen3 := hen W3 r3
  go_upto_region 6 with (first | (go_at_call 35; refine hen3.mono ?_; rintro e w4 ⟨rfl, g4⟩; replace s3 := s3.keep g4; replace og3 := og3.kp g4; replace oi3 := oi3.kp g4; replace r3 := r3.keep g4; replace k3 := k3.trans g4; obtain ⟨b0, b1, b2, b3, b4, b5⟩ := id r3))
  obtain ⟨p0, p1, p2, p3, p4, p5⟩ := id s3
  go_wp2
  have hog := og_sets3 og3 (b := w.heap.size) HI.out.1 (.int .i64 V) (.slice pa NP ca) (.slice pb M cb)
  have hoi := oi_sets3 oi3 (b := w.heap.size) HI.out.2 (.int .i64 V) (.slice pa NP ca) (.slice pb M cb)
  obtain ⟨pa', ca', ea, aa, -⟩ := hog.arr
  obtain ⟨pb', cb', eb, ab, -, -⟩ := hoi.arr
  simp only [Value.slice.injEq] at ea eb
  obtain ⟨rfl, -, rfl⟩ := ea
  obtain ⟨rfl, -, rfl⟩ := eb
  exact bodyPost_ret (v := .tuple #[.agg #[.int .i64 V, .slice pa NP ca, .slice pb M cb], .int .i64 0, .int .i64 0]) (by simp [results, Try.results13, go_sem, p0, p1, p2]) rfl ⟨pa, ca, pb, cb, rfl, aa, ab, ((k3.setCell (Nat.le_refl _) _).setCell (Nat.le_refl _) _).setCell (Nat.le_refl _) _⟩
set_option maxRecDepth 20000 in
set_option maxHeartbeats 1000000 in
theorem same8_ (b off c b' off' d N : Nat) (xs : List Int) (hl : xs.length = N) (w : World) (h1 : ∀ j, j < N → w.cell? ⟨b, off + j, none⟩ = some (.int .u8 (xs.getD j 0))) (h2 : ∀ j, j < N → w.cell? ⟨b', off' + j, none⟩ = some (.int .u8 (xs.getD j 0))) :
    Calls Try.prog 12 #[.slice (some ⟨b, off, none⟩) N c, .slice (some ⟨b', off', none⟩) N d] w fun e w' => e = .returned (.bool true) ∧ w' = w := by
  have e1 := run_convert_bytes_arg (P := Try.prog) w 40 5 Try.underlying40 Try.underlying5 b off N c xs hl h1 9 Try.underlying9
  have e2 := run_convert_bytes_arg (P := Try.prog) w 40 5 Try.underlying40 Try.underlying5 b' off' N d xs hl h2 9 Try.underlying9
  clear h1 h2 hl
  go_enter Try.func12, Try.ntmps12
  go_wp2
  exact bodyPost_ret (v := .bool true) (by simp [results, Try.results12, go_sem]) rfl ⟨rfl, rfl⟩
end X7
end Go.Proofs.Ytipedmnipolmeaa
namespace Go.Proofs.Ytipedmnipolmeaa
open Go.RowKit
open Go
namespace X7
set_option linter.unusedVariables false
open B8
theorem own_at {w : World} {base : Nat} {v : Value} {xs : List Int} (h : Own w base v xs) (h0 : 0 < xs.length) : ∃ g c, v = .slice (some ⟨g, 0, none⟩) xs.length c ∧ base ≤ g ∧ g < w.heap.size ∧ xs.length ≤ c ∧ BY w g xs := by
  rcases h.2 with ⟨h1, h2⟩ | ⟨g, cap, cur, h1, hb, hg, hnc, -⟩
  · have h3 := h.1
    simp only [List.length_map] at h2 h3
    first | omega | (simp at h2; rw [h2] at h0; simp at h0)
  · subst h1
    refine ⟨g, cap, rfl, hb, ?_, hnc, fun j hj => ?_⟩
    · exact (World.ownsRow.lt h g rfl).2
    · rw [World.ownsRow.cellAt h j (by omega)]
      simp [List.getD, hj]
theorem own_put {w : World} {base g n c : Nat} {xs : List Int} (hn : xs.length = n) (h : Own w base (.slice (some ⟨g, 0, none⟩) n c) xs) {j : Nat} (u : Int) : Own (w.setCell ⟨g, j, none⟩ (.int .u8 u)) base (.slice (some ⟨g, 0, none⟩) n c) (xs.set j u) := by
  subst hn
  have e := (World.ownsRow.stored h j (.int .u8 u)).1
  unfold Own
  rw [List.length_set, List.map_set]
  exact e
theorem BY.setNe {w : World} {g b j : Nat} {xs : List Int} (h : BY w g xs) (hne : g ≠ b) (u : Value) : BY (w.setCell ⟨b, j, none⟩ u) g xs := fun k hk => by
  have e : (w.setCell ⟨b, j, none⟩ u).heap[g]? = w.heap[g]? := heap_setCell_other w ⟨b, j, none⟩ g u hne
  rw [← h k hk]
  exact World.cell?_of_block (w := w) e
theorem cell_setNe {w : World} {g b o j : Nat} {x : Value} (h : w.cell? ⟨g, o, none⟩ = some x) (hne : g ≠ b) (u : Value) : (w.setCell ⟨b, j, none⟩ u).cell? ⟨g, o, none⟩ = some x := by
  have e : (w.setCell ⟨b, j, none⟩ u).heap[g]? = w.heap[g]? := heap_setCell_other w ⟨b, j, none⟩ g u hne
  rw [← h]
  exact World.cell?_of_block (w := w) e
theorem enc_pos (V : Int) (ps : List (Nat × Nat)) (L : List I5) : 0 < (enc V ps L).length := by unfold enc; simp
end X7
end Go.Proofs.Ytipedmnipolmeaa
namespace Go.Proofs.Ytipedmnipolmeaa
open Go.RowKit
open Go
namespace X7
set_option linter.unusedVariables false
open B8
set_option maxRecDepth 20000 in
set_option maxHeartbeats 8000000 in
theorem exprencodesE_ (V : Int) (pc pk : Option Addr) (cc ck : Nat) (ps : List (Nat × Nat)) (L : List I5) (he : (chk V ps L).2 ≠ 0) (w : World) (hx : AG ULV w pc ps) (hy : AI w pk L) (hw : Wq ps) (lx : ps.length ≤ 1048576) (ly : L.length ≤ 1048576) :
    Calls Try.prog 4 #[.agg #[.int .i64 V, .slice pc ps.length cc, .slice pk L.length ck]] w fun e w' => e = .returned (.bool true) ∧ Kp w w' := by
  obtain ⟨R, hR⟩ : ∃ R, R = chk V ps L := ⟨_, rfl⟩
  have hma := fun (W : World) (g : Kp w W) => made2_ V pc pk cc ck ps L W (hx.grown g) (hy.grown g) lx ly
  have hrc := fun (W : World) (g : Kp w W) => rcheck_ V pc pk cc ck ps L W (hx.grown g) (hy.grown g) hw lx ly
  have hpe := fun (W : World) (qa qb : Option Addr) (da db : Nat) (ha : AG FLV W qa ps) (hb : AI W qb L) => pencodeE_ V qa qb da db ps L he W ha hb hw lx ly
  rw [← hR] at hrc hpe he
  generalize ps.length = N at hma hrc hpe ⊢
  generalize L.length = M at hma hrc hpe ⊢
  have z0 : (w.alloc (.cells #[.int .i64 V, .slice pc N cc, .slice pk M ck] 25)).cell? ⟨w.heap.size, 0, none⟩ = some (.int .i64 V) := by simp [go_sem]
  have z1 : (w.alloc (.cells #[.int .i64 V, .slice pc N cc, .slice pk M ck] 25)).cell? ⟨w.heap.size, 1, none⟩ = some (.slice pc N cc) := by simp [go_sem]
  have z2 : (w.alloc (.cells #[.int .i64 V, .slice pc N cc, .slice pk M ck] 25)).cell? ⟨w.heap.size, 2, none⟩ = some (.slice pk M ck) := by simp [go_sem]
  have kw : Kp w (w.alloc (.cells #[.int .i64 V, .slice pc N cc, .slice pk M ck] 25)) := (Kp.refl w).alloc _
  obtain ⟨n, e⟩ := R
  simp only at hrc hpe he
  have dE : (e == 0) = false := beq_eq_false_iff_ne.2 he
  have dE' : (e != 0) = true := by simpa using he
  have ee : (e == e) = true := by simp
  clear he hR hx hy hw lx ly
  go_enter Try.func4, Try.ntmps4
  go_wp2_with (first | (go_at_call 7; refine (hma _ kw).mono ?_; rintro e1 w1 ⟨pa, ca, pb, cb, rfl, ha, hb, g1⟩; replace kw := kw.trans g1; replace z0 := kkeep g1 z0; replace z1 := kkeep g1 z1; replace z2 := kkeep g1 z2; have hq := hpe w1 pa pb ca cb ha hb; clear ha hb g1) | (go_at_call 10; refine hq.mono ?_; rintro e2 w2 ⟨rfl, g2⟩; replace kw := kw.trans g2; replace z0 := kkeep g2 z0; replace z1 := kkeep g2 z1; replace z2 := kkeep g2 z2; clear hq g2) | (go_at_call 8; refine (hrc _ kw).mono ?_; rintro e3 w3 ⟨rfl, g3⟩; replace kw := kw.trans g3; replace z0 := kkeep g3 z0; replace z1 := kkeep g3 z1; replace z2 := kkeep g3 z2; clear g3))
  exact bodyPost_ret (v := .bool true) (by simp [results, Try.results4, go_sem]) rfl ⟨rfl, kw⟩
set_option maxRecDepth 20000 in
set_option maxHeartbeats 8000000 in
theorem exprencodesO_ (V : Int) (pc pk : Option Addr) (cc ck : Nat) (ps : List (Nat × Nat)) (L : List I5) (he : (chk V ps L).2 = 0) (w : World) (hx : AG ULV w pc ps) (hy : AI w pk L) (hw : Wq ps) (lx : ps.length ≤ 1048576) (ly : L.length ≤ 1048576) :
    Calls Try.prog 4 #[.agg #[.int .i64 V, .slice pc ps.length cc, .slice pk L.length ck]] w fun e w' => e = .returned (.bool true) ∧ Kp w w' := by
  obtain ⟨i0, hi0, hi1, hi2, hi3⟩ := inf8p
  obtain ⟨hV, ⟨hN2, hal⟩, hM2, hln⟩ := chk_good he
  have hma := fun (W : World) (g : Kp w W) => made2_ V pc pk cc ck ps L W (hx.grown g) (hy.grown g) lx ly
  have hrc := fun (W : World) (g : Kp w W) => rcheck_ V pc pk cc ck ps L W (hx.grown g) (hy.grown g) hw lx ly
  have hpe := fun (W : World) (qa qb : Option Addr) (da db : Nat) (ha : AG FLV W qa ps) (hb : AI W qb L) => pencodeO_ V qa qb da db ps L he W ha hb hw lx ly
  have hre := fun (W : World) (g : Kp w W) => rencode_ V pc pk cc ck ps L hV hN2 hM2.2 (fun i hi => ⟨good_s5 hV (by omega) hN2 (hln i hi), (lnE_zero (hln i hi)).1⟩) W (hx.grown g) (hy.grown g) hw
  have hrd := fun (W : World) (qa qb : Option Addr) (da db : Nat) (ha : AG FLV W qa ps) (hb : AI W qb L) => readq2_ V qa qb da db ps L W ha hb lx ly
  have heq := fun (W : World) (p r : Option Addr) (c e : Nat) (g : Kp w W) (h1 : AG ULV W p ps) (h3 : AI W r L) => equal_ V p pc r pk c cc e ck ps L W h1 (hx.grown g) h3 (hy.grown g) lx ly
  have hxl := enc_len V ps L hN2 hM2.2
  have hx0 := enc_pos V ps L
  have hde := fun (g c : Nat) (hc : (enc V ps L).length ≤ c) (W : World) (hb : BY W g (enc V ps L)) (hg : g < W.heap.size) => decode_ g (enc V ps L).length c (enc V ps L) V ps L he hw rfl rfl hc (by omega) W hb hg
  obtain ⟨R, hR⟩ : ∃ R, R = chk V ps L := ⟨_, rfl⟩
  rw [← hR] at hrc he
  generalize enc V ps L = xs at hpe hre hde hxl hx0
  generalize ps.length = N at hma hrc hpe hre hrd heq hde ⊢
  generalize L.length = M at hma hrc hpe hre hrd heq hde ⊢
  have z0 : (w.alloc (.cells #[.int .i64 V, .slice pc N cc, .slice pk M ck] 25)).cell? ⟨w.heap.size, 0, none⟩ = some (.int .i64 V) := by simp [go_sem]
  have z1 : (w.alloc (.cells #[.int .i64 V, .slice pc N cc, .slice pk M ck] 25)).cell? ⟨w.heap.size, 1, none⟩ = some (.slice pc N cc) := by simp [go_sem]
  have z2 : (w.alloc (.cells #[.int .i64 V, .slice pc N cc, .slice pk M ck] 25)).cell? ⟨w.heap.size, 2, none⟩ = some (.slice pk M ck) := by simp [go_sem]
  have kw : Kp w (w.alloc (.cells #[.int .i64 V, .slice pc N cc, .slice pk M ck] 25)) := (Kp.refl w).alloc _
  have hsz : (w.alloc (.cells #[.int .i64 V, .slice pc N cc, .slice pk M ck] 25)).heap.size = w.heap.size + 1 := by simp
  obtain ⟨n, e⟩ := R
  simp only at hrc he
  subst he
  obtain ⟨K, hK⟩ : ∃ K, K = xs.length := ⟨_, rfl⟩
  rw [← hK] at hxl hx0 hde
  have HK : Hid (K = xs.length) := hK
  clear hR hx hy hw lx ly hV hN2 hal hM2 hln hK
  go_enter Try.func4, Try.ntmps4
  go_upto_region 2 with (go_at_call 8; refine (hrc _ kw).mono ?_; rintro e3 w3 ⟨rfl, g3⟩; replace kw := kw.trans g3; replace z0 := kkeep g3 z0; replace z1 := kkeep g3 z1; replace z2 := kkeep g3 z2; have hs3 := g3.size)
  clear hrc
  go_upto_region 3 with (first | (go_at_call 7; refine (hma _ kw).mono ?_; rintro e1 w1 ⟨pa, ca, pb, cb, rfl, ha, hb, g1⟩; replace kw := kw.trans g1; replace z0 := kkeep g1 z0; replace z1 := kkeep g1 z1; replace z2 := kkeep g1 z2; have hs1 := g1.size; have hq := hpe w1 pa pb ca cb ha hb; clear ha hb g1) | (go_at_call 10; refine hq.mono ?_; rintro e2 w2 ⟨v2, rfl, o2, g2⟩; replace kw := kw.trans g2; replace z0 := kkeep g2 z0; replace z1 := kkeep g2 z1; replace z2 := kkeep g2 z2; have hs2 := g2.size; clear hq g2))
  obtain ⟨b1, c1, rfl, hb1, hb1s, hc1, y1⟩ := own_at o2 (by rw [← HK.out]; exact hx0)
  rw [← HK.out] at o2 hc1 ⊢
  obtain ⟨S, hS⟩ : ∃ S, S = w.heap.size + 1 := ⟨_, rfl⟩
  replace o2 := o2.mono (base' := S) (by omega)
  obtain ⟨B1, hB1⟩ : ∃ B1, B1 = w.heap.size := ⟨_, rfl⟩
  rw [← hB1] at z0 z1 z2 ⊢
  have HB : Hid (B1 = w.heap.size ∧ S = w.heap.size + 1 ∧ S ≤ b1 ∧ S ≤ w2.heap.size) := by
    show _ ∧ _
    omega
  clear hs1 hs2 hs3 hsz hb1 hS hB1
  go_upto_region 6 with (go_at_call 11; refine (hre _ kw).mono ?_; rintro e4 w4 ⟨v4, rfl, o4, g4⟩; replace kw := kw.trans g4; replace z0 := kkeep g4 z0; replace z1 := kkeep g4 z1; replace z2 := kkeep g4 z2; replace o2 := o2.kp g4; replace y1 := y1.kp g4; have hs4 := g4.size)
  obtain ⟨b2, c2, rfl, hb2, hb2s, hc2, y2⟩ := own_at o4 (by rw [← HK.out]; exact hx0)
  rw [← HK.out] at o4 hc2 ⊢
  have hs8 := same8_ b1 0 c1 b2 0 c2 K xs HK.out.symm w4 (fun j hj => by rw [Nat.zero_add]; exact y1 j (by rw [← HK.out]; exact hj)) (fun j hj => by rw [Nat.zero_add]; exact y2 j (by rw [← HK.out]; exact hj))
  have HC : Hid (b1 ≠ b2 ∧ b2 < w4.heap.size ∧ S ≤ b2 ∧ S ≤ w4.heap.size) := by
    show _ ∧ _
    have := HB.out
    omega
  clear o4 y1 g4 hs4 hb2 hb2s hb1s hre
  go_upto_region 9 with (go_at_call 12; refine hs8.mono ?_; rintro e5 w5 ⟨rfl, hw5⟩; obtain rfl := hw5.symm; clear hw5)
  have HS : Hid (∃ us : List Int, us.length = K ∧ Own w4 S (.slice (some ⟨b1, 0, none⟩) K c1) us ∧ BY w4 b2 xs ∧ (w4.cell? ⟨B1, 0, none⟩ = some (.int .i64 V) ∧ w4.cell? ⟨B1, 1, none⟩ = some (.slice pc N cc) ∧ w4.cell? ⟨B1, 2, none⟩ = some (.slice pk M ck)) ∧ Kp w w4 ∧ S ≤ w4.heap.size ∧ b2 < w4.heap.size) := ⟨xs, HK.out.symm, o2, y2, ⟨z0, z1, z2⟩, kw, HC.out.2.2.2, HC.out.2.1⟩
  have hbb : b1 ≠ b2 ∧ S ≤ b2 ∧ B1 = w.heap.size ∧ S = w.heap.size + 1 ∧ S ≤ b1 := by have h1 := HC.out; have h2 := HB.out; omega
  have HD : Hid (b1 ≠ b2 ∧ S ≤ b2 ∧ B1 = w.heap.size ∧ S = w.heap.size + 1 ∧ S ≤ b1) := hbb
  clear o2 y2 z0 z1 z2 kw HC HB hs8 hbb
  go_loopw [8] (fun s8 wr => ∃ j : Nat, s8 = .int .i64 j ∧ j ≤ K ∧ ∃ us : List Int, us.length = K ∧ Own wr S (.slice (some ⟨b1, 0, none⟩) K c1) us ∧ BY wr b2 xs ∧ (wr.cell? ⟨B1, 0, none⟩ = some (.int .i64 V) ∧ wr.cell? ⟨B1, 1, none⟩ = some (.slice pc N cc) ∧ wr.cell? ⟨B1, 2, none⟩ = some (.slice pk M ck)) ∧ Kp w wr ∧ S ≤ wr.heap.size ∧ b2 < wr.heap.size) (fun s8 _ => K - (intOf s8).toNat)
  case atStart => exact ⟨0, rfl, Nat.zero_le _, HS.out⟩
  case round =>
    clear HS
    obtain ⟨j, rfl, hj, us, hul, hO, y2, ⟨z0, z1, z2⟩, kw, hSs, hbs⟩ := hrel
    by_cases cj : j < K
    · have e2 : wr.cell? ⟨b1, j, none⟩ = some (.int .u8 (us.getD j 0)) := by
        have hO' : wr.ownsRow S 5 1 (.slice (some ⟨b1, 0, none⟩) K c1) K (us.map (Value.int .u8)) := by rw [← hul]; rw [← hul] at hO; exact hO
        rw [World.ownsRow.cellAt hO' j (by omega)]
        simp [List.getD, show j < us.length from by omega]
      have e3 : wr.frozen? ⟨b1, j, none⟩ = false := by
        have hO' : wr.ownsRow S 5 1 (.slice (some ⟨b1, 0, none⟩) K c1) K (us.map (Value.int .u8)) := by rw [← hul]; rw [← hul] at hO; exact hO
        exact World.ownsRow.frozenAt hO' j
      have hO2 := own_put hul hO (j := j) 77
      have hD := HD.out
      have y22 := y2.setNe (b := b1) (j := j) (fun h => hD.1 h.symm) (.int .u8 77)
      have z02 := cell_setNe z0 (b := b1) (j := j) (by omega) (.int .u8 77)
      have z12 := cell_setNe z1 (b := b1) (j := j) (by omega) (.int .u8 77)
      have z22 := cell_setNe z2 (b := b1) (j := j) (by omega) (.int .u8 77)
      have kw2 : Kp w (wr.setCell ⟨b1, j, none⟩ (.int .u8 77)) := kw.setCell (by show w.heap.size ≤ b1; omega) _
      have hSs2 : S ≤ (wr.setCell ⟨b1, j, none⟩ (.int .u8 77)).heap.size := by simp; exact hSs
      have hbs2 : b2 < (wr.setCell ⟨b1, j, none⟩ (.int .u8 77)).heap.size := by simp; exact hbs
      have hul2 : (us.set j 77).length = K := by rw [List.length_set]; exact hul
      clear hD hO y2 z0 z1 z2 kw hSs hbs hul hma hpe hrd heq hde
      go_wp2
      exact ⟨⟨j + 1, by go_num, cj, us.set j 77, hul2, hO2, y22, ⟨z02, z12, z22⟩, kw2, hSs2, hbs2⟩, by simp [intOf]; omega⟩
    · clear hj
      go_upto_region 13 with fail
      have HS : Hid ((∀ g, (Value.slice (some ⟨b1, 0, none⟩) K c1).ownBlock = some g → g ≠ b2) ∧ ∃ us : List Int, us.length = K + 0 ∧ Own wr S (.slice (some ⟨b1, 0, none⟩) K c1) us ∧ BY wr b2 xs ∧ (wr.cell? ⟨B1, 0, none⟩ = some (.int .i64 V) ∧ wr.cell? ⟨B1, 1, none⟩ = some (.slice pc N cc) ∧ wr.cell? ⟨B1, 2, none⟩ = some (.slice pk M ck)) ∧ Kp w wr ∧ S ≤ wr.heap.size ∧ b2 < wr.heap.size) := ⟨fun g hg => by simp [Value.ownBlock] at hg; have := HD.out; omega, us, hul, hO, y2, ⟨z0, z1, z2⟩, kw, hSs, hbs⟩
      clear hO y2 z0 z1 z2 kw hSs hbs hul
      go_loopw [5, 9] (fun s5 s9 wr => ∃ k : Nat, s9 = .int .i64 k ∧ k ≤ 40 ∧ (∀ g, s5.ownBlock = some g → g ≠ b2) ∧ ∃ us : List Int, us.length = K + k ∧ Own wr S s5 us ∧ BY wr b2 xs ∧ (wr.cell? ⟨B1, 0, none⟩ = some (.int .i64 V) ∧ wr.cell? ⟨B1, 1, none⟩ = some (.slice pc N cc) ∧ wr.cell? ⟨B1, 2, none⟩ = some (.slice pk M ck)) ∧ Kp w wr ∧ S ≤ wr.heap.size ∧ b2 < wr.heap.size) (fun _ s9 _ => 40 - (intOf s9).toNat)
      case atStart => exact ⟨0, rfl, Nat.zero_le _, HS.out⟩
      case round =>
        clear HS
        rename_i s5' s9'
        obtain ⟨k, rfl, hk, hnb, us, hul, hO, y2, ⟨z0, z1, z2⟩, kw, hSs, hbs⟩ := hrel
        by_cases cj : k < 40
        · have kA : Kp wr (wr.alloc (.cells #[.int .u8 78] 5)) := (Kp.refl wr).alloc _
          have hc : ∀ j, j < ([78] : List Int).length → (wr.alloc (.cells #[.int .u8 78] 5)).cell? ⟨wr.heap.size, 0 + j, none⟩ = some (.int .u8 (([78] : List Int).getD j 0)) := fun j hj => by
            obtain rfl : j = 0 := by simp at hj; omega
            simp [go_sem]
          have hnw := arr_news hc
          have hob := own_block hO
          clear hc hma hpe hrd heq hde
          go_wp2_with (first | (at_builtin; refine wpList_append_own_at _ rfl _ _ 40 rfl S 5 i0 (.int .u8 0) 1 1 Try.underlying40 hi0 hi1 hi2 hi3 rfl (by decide) _ _ _ rfl (World.ownsRow.alloc hO _) ⟨wr.heap.size, 0, none⟩ 1 1 (([78]).map (Value.int .u8)) rfl ?zl hnw (one_u8 _) ?zm ?zb ?zs ?_))
          case zl => rfl
          case zm => unfold maxLen; omega
          case zb => omega
          case zs => simp; omega
          intro v' w8 hown2 hgrow _ hat
          have hG : Gr wr w8 _ v' := (Gr.kp kA _).trans ⟨hgrow, hat.imp id (fun e => ⟨_, e, by simp⟩)⟩
          have hO8 : Own w8 S v' (us ++ [78]) := own_app rfl (by rw [hul]; exact hown2)
          have hD := HD.out
          have hn2 : v'.ownBlock ≠ some b2 := hG.ne (fun e => hnb _ e rfl) hbs
          have y22 : BY w8 b2 xs := fun j hj => hG.cell (fun e => hnb _ e rfl) (y2 j hj)
          have z02 := hG.cell (fun e => by have := hob _ e; omega) z0
          have z12 := hG.cell (fun e => by have := hob _ e; omega) z1
          have z22 := hG.cell (fun e => by have := hob _ e; omega) z2
          have kw2 : Kp w w8 := hG.kp0 kw (fun g hg => by have := hob g hg; omega)
          have hSs2 : S ≤ w8.heap.size := Nat.le_trans hSs hG.size
          have hbs2 : b2 < w8.heap.size := Nat.lt_of_lt_of_le hbs hG.size
          have hul2 : (us ++ [(78 : Int)]).length = K + (k + 1) := by simp; omega
          clear hown2 hgrow hat hG hnw kA hO y2 z0 z1 z2 kw hSs hbs hul hob hD
          go_wp2
          exact ⟨⟨k + 1, by go_num, cj, fun g hg e => hn2 (by rw [hg, e]), us ++ [78], hul2, hO8, y22, ⟨z02, z12, z22⟩, kw2, hSs2, hbs2⟩, by simp [intOf]; omega⟩
        · have hk40 : k = 40 := by omega
          subst hk40
          clear hO hnb hul
          go_upto_region 17 with (first | (go_at_call 7; refine (hma _ kw).mono ?_; rintro e1 w1 ⟨pa, ca, pb, cb, rfl, ha, hb, g1⟩; replace kw := kw.trans g1; replace z0 := kkeep g1 z0; replace z1 := kkeep g1 z1; replace z2 := kkeep g1 z2; replace y2 := y2.kp g1; have hq := hpe w1 pa pb ca cb ha hb; clear ha hb g1) | (go_at_call 10; refine hq.mono ?_; rintro e2 w2 ⟨v2, rfl, o2, g2⟩; replace kw := kw.trans g2; replace z0 := kkeep g2 z0; replace z1 := kkeep g2 z1; replace z2 := kkeep g2 z2; replace y2 := y2.kp g2; clear hq g2))
          obtain ⟨b3, c3, rfl, hb3, hb3s, hc3, y3⟩ := own_at o2 (by rw [← HK.out]; exact hx0)
          rw [← HK.out] at o2 hc3 ⊢
          have hs8 := same8_ b3 0 c3 b2 0 c2 K xs HK.out.symm w2 (fun j hj => by rw [Nat.zero_add]; exact y3 j (by rw [← HK.out]; exact hj)) (fun j hj => by rw [Nat.zero_add]; exact y2 j (by rw [← HK.out]; exact hj))
          have hd3 := hde b3 c3 hc3 w2 y3 hb3s
          clear o2 y2 y3 hb3 hb3s hbs hSs hma hpe hde hc3
          go_upto_region 20 with (first | (go_at_call 12; refine hs8.mono ?_; rintro e5 w5 ⟨rfl, hw5⟩; obtain rfl := hw5.symm; clear hw5) | (go_at_call 13; refine hd3.mono ?_; rintro e6 w6 ⟨qa, ca2, qb, cb2, rfl, ha2, hb2, g6⟩; replace kw := kw.trans g6; replace z0 := kkeep g6 z0; replace z1 := kkeep g6 z1; replace z2 := kkeep g6 z2))
          have kA : Kp w6 (w6.alloc (.cells #[.int .i64 V, .slice qa N ca2, .slice qb M cb2] 32)) := (Kp.refl w6).alloc _
          have x := H3c.new w6 (.int .i64 V) (.slice qa N ca2) (.slice qb M cb2) 32
          replace kw := kw.trans kA
          replace z0 := kkeep kA z0
          replace z1 := kkeep kA z1
          replace z2 := kkeep kA z2
          replace ha2 := ha2.grown kA
          replace hb2 := hb2.grown kA
          generalize (w6.alloc (.cells #[.int .i64 V, .slice qa N ca2, .slice qb M cb2] 32)) = W3 at kw z0 z1 z2 ha2 hb2 x ⊢
          generalize w6.heap.size = B3 at x ⊢
          obtain ⟨x0, x1, x2, -⟩ := id x
          clear kA x g6 hd3 hs8
          have kd : Kp W3 W3.drew := (Kp.refl W3).drew
          replace ha2 := ha2.grown kd
          replace hb2 := hb2.grown kd
          replace kw := kw.trans kd
          have x0' := kkeep kd x0
          have x1' := kkeep kd x1
          have x2' := kkeep kd x2
          have y0' := kkeep kd z0
          have y1' := kkeep kd z1
          have y2' := kkeep kd z2
          go_region_held3 (fun w' => w'.cell? ⟨B3, 0, none⟩ = some (.int .i64 V) ∧ w'.cell? ⟨B3, 1, none⟩ = some (.slice qa N ca2) ∧ w'.cell? ⟨B3, 2, none⟩ = some (.slice qb M cb2) ∧ w'.cell? ⟨B1, 0, none⟩ = some (.int .i64 V) ∧ w'.cell? ⟨B1, 1, none⟩ = some (.slice pc N cc) ∧ w'.cell? ⟨B1, 2, none⟩ = some (.slice pk M ck)) (first | (with_reducible exact ⟨x0, x1, x2, z0, z1, z2⟩) | (with_reducible exact ⟨x0', x1', x2', y0', y1', y2'⟩) | (exact ⟨kkeep k5 x0', kkeep k5 x1', kkeep k5 x2', kkeep k5 y0', kkeep k5 y1', kkeep k5 y2'⟩) | (exact ⟨kkeep k6 x0', kkeep k6 x1', kkeep k6 x2', kkeep k6 y0', kkeep k6 y1', kkeep k6 y2'⟩)) (first | (go_at_call 15; refine (hrd _ qa qb ca2 cb2 ha2 hb2).mono ?_; rintro e9 w5 ⟨sa, c9, sb, d9, rfl, ha4, hb4, g5⟩; have k5 : Kp W3.drew w5 := g5; have hq5 := heq w5 sa sb c9 d9 (kw.trans g5) ha4 hb4) | (go_at_call 14; refine hq5.mono ?_; rintro e9 w6 ⟨rfl, g6⟩; have k6 : Kp W3.drew w6 := k5.trans g6))
          all_goals (
            go_wp2
            exact bodyPost_ret (v := .bool true) (by simp [results, Try.results4, go_sem]) rfl ⟨rfl, kw.trans k6⟩)
set_option maxRecDepth 20000 in
set_option maxHeartbeats 8000000 in
theorem exprencodes_ (V : Int) (pc pk : Option Addr) (cc ck : Nat) (ps : List (Nat × Nat)) (L : List I5)  (w : World) (hx : AG ULV w pc ps) (hy : AI w pk L) (hw : Wq ps) (lx : ps.length ≤ 1048576) (ly : L.length ≤ 1048576) :
    Calls Try.prog 4 #[.agg #[.int .i64 V, .slice pc ps.length cc, .slice pk L.length ck]] w fun e w' => e = .returned (.bool true) ∧ Kp w w' := by
  by_cases he : (chk V ps L).2 = 0
  · exact exprencodesO_ V pc pk cc ck ps L he w hx hy hw lx ly
  · exact exprencodesE_ V pc pk cc ck ps L he w hx hy hw lx ly
end X7
end Go.Proofs.Ytipedmnipolmeaa
