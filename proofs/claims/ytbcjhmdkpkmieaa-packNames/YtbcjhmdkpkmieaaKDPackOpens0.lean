import Derived.Test.YtbcjhmdkpkmieaaKPKz
import Derived.Test.YtbcjhmdkpkmieaaKPKx
import Derived.Test.YtbcjhmdkpkmieaaKDPackPuts0
import Derived.WalkKit
import Derived.ProofKit
import Derived.RowKit3
import Derived.WalkSpells
import Derived.StillTactics
import Derived.Deep.QuietTactic
import Derived.BigQuiet
import Derived.Below
import Derived.Deep.OwnRows
import Derived.OwnWalk
import Derived.Lib.BitFns
import Derived.Deep.RegionHeld3
import Derived.Deep.CutRange
import Derived.Deep.DeepCutAuto
namespace Go.Proofs.Ytbcjhmdkpkmieaa
open Go.RowKit
open Go
namespace B8
theorem Own.kp {w w' : World} {base : Nat} {v : Value} {xs : List Int} (h : Own w base v xs) (k : Kp w w') : Own w' base v xs := by
  refine ⟨h.1, ?_⟩
  rcases h.2 with h' | ⟨g, cap, cur, h1, h2, h3, h4, h5, h6, h7⟩
  · exact Or.inl h'
  · have hlt : g < w.heap.size := by
      by_cases c : g < w.heap.size
      · exact c
      · rw [Array.getElem?_eq_none (by simpa using c)] at h3; cases h3
    exact Or.inr ⟨g, cap, cur, h1, h2, by rw [Below.block k g hlt]; exact h3, h4, h5, h6, h7⟩
end B8
end Go.Proofs.Ytbcjhmdkpkmieaa
namespace Go.Proofs.Ytbcjhmdkpkmieaa
open Go.RowKit
open Go
namespace B8
def FLV (x : Nat) : Value := .float .f64 x
def ULV (x : Nat) : Value := .int .u64 (x : Int)
/-- pairs, cell by cell -/
def flat (f : Nat → Value) : List (Nat × Nat) → List Value
  | [] => []
  | q :: r => f q.1 :: f q.2 :: flat f r
theorem flat_app (f : Nat → Value) : ∀ ps qs, flat f (ps ++ qs) = flat f ps ++ flat f qs
  | [], qs => rfl
  | q :: r, qs => by simp only [List.cons_append, flat, flat_app f r qs]
theorem flat_get (f : Nat → Value) : ∀ (ps : List (Nat × Nat)) (j : Nat), j < ps.length → (flat f ps)[j * 2]? = some (f (ps.getD j (0, 0)).1) ∧ (flat f ps)[j * 2 + 1]? = some (f (ps.getD j (0, 0)).2)
  | [], j, h => by simp at h
  | q :: r, 0, _ => by simp [flat]
  | q :: r, j + 1, h => by
    have ih := flat_get f r j (by simpa using h)
    rw [show (j + 1) * 2 = j * 2 + 1 + 1 from by omega]
    simp only [flat, List.getElem?_cons_succ, List.getD_cons_succ]
    exact ih
/-- the pairs that a slice shows -/
def AG (f : Nat → Value) (w : World) (p : Option Addr) (ps : List (Nat × Nat)) : Prop := ps = [] ∨ ∃ b off, p = some ⟨b, off, none⟩ ∧ ∀ j, j < ps.length → w.cell? ⟨b, off + j * 2, none⟩ = some (f (ps.getD j (0, 0)).1) ∧ w.cell? ⟨b, off + j * 2 + 1, none⟩ = some (f (ps.getD j (0, 0)).2)
theorem AG.grown {f : Nat → Value} {w w' : World} {p : Option Addr} {ps : List (Nat × Nat)} (h : AG f w p ps) (g : Kp w w') : AG f w' p ps := by
  rcases h with h | ⟨b, off, h1, h2⟩
  · exact Or.inl h
  · exact Or.inr ⟨b, off, h1, fun j hj => ⟨kkeep g (h2 j hj).1, kkeep g (h2 j hj).2⟩⟩
theorem AG.at {f : Nat → Value} {w : World} {p : Option Addr} {ps : List (Nat × Nat)} (h : AG f w p ps) {k : Nat} (hk : k < ps.length) : ∃ b off, p = some ⟨b, off, none⟩ ∧ ∀ j, j < ps.length → w.cell? ⟨b, off + j * 2, none⟩ = some (f (ps.getD j (0, 0)).1) ∧ w.cell? ⟨b, off + j * 2 + 1, none⟩ = some (f (ps.getD j (0, 0)).2) := by
  rcases h with h | h
  · subst h; simp at hk
  · exact h
/-- pairs of the call's own -/
def OG (f : Nat → Value) (T : TypeId) (w : World) (base : Nat) (v : Value) (ps : List (Nat × Nat)) : Prop := w.ownsRow base T 2 v ps.length (flat f ps)
theorem OG.nil (f : Nat → Value) (T : TypeId) (w : World) (base : Nat) : OG f T w base (.slice none 0 0) [] := World.ownsRow_nil _ _ _ _
theorem OG.arr {f : Nat → Value} {T : TypeId} {w : World} {base : Nat} {v : Value} {ps : List (Nat × Nat)} (h : OG f T w base v ps) : ∃ p c, v = .slice p ps.length c ∧ AG f w p ps ∧ ps.length ≤ c := by
  have hc : ∀ g, v.ownBlock = some g → ∀ j u, (flat f ps)[j]? = some u → w.cell? ((⟨g, 0, none⟩ : Addr).add j) = some u := fun g hg => World.ownsRow.cells h hg
  rcases h.2 with ⟨h1, h2⟩ | ⟨g, cap, cur, h1, h2, h3, h4, h5, h6, h7⟩
  · have : ps = [] := List.length_eq_zero_iff.1 h2
    subst this
    exact ⟨none, 0, h1, Or.inl rfl, Nat.le_refl _⟩
  · refine ⟨_, cap, h1, Or.inr ⟨g, 0, rfl, fun j hj => ?_⟩, h4⟩
    have e := flat_get f ps j hj
    have a := hc g (by rw [h1]; rfl) _ _ e.1
    have b := hc g (by rw [h1]; rfl) _ _ e.2
    rw [addr_add] at a b
    exact ⟨a, b⟩
theorem OG.kp {f : Nat → Value} {T : TypeId} {w w' : World} {base : Nat} {v : Value} {ps : List (Nat × Nat)} (h : OG f T w base v ps) (k : Kp w w') : OG f T w' base v ps := by
  refine ⟨h.1, ?_⟩
  rcases h.2 with h' | ⟨g, cap, cur, h1, h2, h3, h4, h5, h6, h7⟩
  · exact Or.inl h'
  · have hlt : g < w.heap.size := by
      by_cases c : g < w.heap.size
      · exact c
      · rw [Array.getElem?_eq_none (by simpa using c)] at h3; cases h3
    exact Or.inr ⟨g, cap, cur, h1, h2, by rw [Below.block k g hlt]; exact h3, h4, h5, h6, h7⟩
theorem OG.mono {f : Nat → Value} {T : TypeId} {w : World} {base base' : Nat} {v : Value} {ps : List (Nat × Nat)} (h : OG f T w base v ps) (hb : base' ≤ base) : OG f T w base' v ps := by
  refine ⟨h.1, ?_⟩
  rcases h.2 with h' | ⟨g, cap, cur, h1, h2, h3⟩
  · exact Or.inl h'
  · exact Or.inr ⟨g, cap, cur, h1, Nat.le_trans hb h2, h3⟩
theorem OG.push {f : Nat → Value} {T : TypeId} {w : World} {base : Nat} {v : Value} {ps : List (Nat × Nat)} {a b : Nat} (h : w.ownsRow base T 2 v (ps.length + 1) (flat f ps ++ [f a, f b])) : OG f T w base v (ps ++ [(a, b)]) := by
  unfold OG
  rw [flat_app, List.length_append]
  exact h
theorem og_block {f : Nat → Value} {T : TypeId} {w : World} {base : Nat} {v : Value} {ps : List (Nat × Nat)} (h : OG f T w base v ps) : ∀ k, v.ownBlock = some k → base ≤ k := fun k hk => (World.ownsRow.lt h k hk).1
/-- the bytes of a box: how many parts, the i-th part, are they a form -/
def bN (xs : List Int) : Nat := (xs.getD 0 0).toNat
def pt (xs : List Int) (i : Nat) : List Int := (xs.drop (1 + 16 * i)).take 16
def bHd (xs : List Int) : Bool := decide (0 < xs.length) && (decide (bN xs ≤ 32) && decide (xs.length = 1 + 16 * bN xs))
def bAll (xs : List Int) (k : Nat) : Bool := (List.range k).all (fun i => gOk (pt xs i))
def bOk (xs : List Int) : Bool := bHd xs && bAll xs (bN xs)
def bP (xs : List Int) (k : Nat) : List (Nat × Nat) := (List.range k).map (fun i => (gX (pt xs i), gY (pt xs i)))
def bL (xs : List Int) : List (Nat × Nat) := if bOk xs then bP xs (bN xs) else []
def bE (xs : List Int) : Int := if bOk xs then 0 else 130
theorem bP_len (xs : List Int) (k : Nat) : (bP xs k).length = k := by simp [bP]
theorem bP_succ (xs : List Int) (k : Nat) : bP xs (k + 1) = bP xs k ++ [(gX (pt xs k), gY (pt xs k))] := by simp [bP, List.range_succ]
theorem bP_get (xs : List Int) (n i : Nat) (h : i < n) : (bP xs n).getD i (0, 0) = (gX (pt xs i), gY (pt xs i)) := by simp [bP, List.getD, h]
theorem bAll_succ (xs : List Int) (k : Nat) : bAll xs (k + 1) = (bAll xs k && gOk (pt xs k)) := by simp [bAll, List.range_succ]
theorem bAll_le (xs : List Int) (k n : Nat) (h : k < n) (hk : gOk (pt xs k) = false) : bAll xs n = false := by
  unfold bAll
  rw [List.all_eq_false]
  exact ⟨k, List.mem_range.2 h, by rw [hk]; simp⟩
theorem pt_len (xs : List Int) (i n : Nat) (hl : xs.length = 1 + 16 * n) (hi : i < n) : (pt xs i).length = 16 := by
  unfold pt; rw [List.length_take, List.length_drop]; omega
theorem pt_wb {xs : List Int} (h : Wb xs) (i : Nat) : Wb (pt xs i) := (h.drop _).take _
theorem infF0 : (Try.prog.info? 25).map (fun i => (i.zero, i.size, i.bytes)) = some (some (.agg #[.float .f64 0, .float .f64 0]), 2, 16) := by kernel_rfl
theorem infF : ∃ i, Try.prog.info? 25 = some i ∧ i.zero = some (.agg #[.float .f64 0, .float .f64 0]) ∧ i.size = 2 ∧ i.bytes = 16 := info_parts infF0
theorem infU0 : (Try.prog.info? 42).map (fun i => (i.zero, i.size, i.bytes)) = some (some (.agg #[.int .u64 0, .int .u64 0]), 2, 16) := by kernel_rfl
theorem infU : ∃ i, Try.prog.info? 42 = some i ∧ i.zero = some (.agg #[.int .u64 0, .int .u64 0]) ∧ i.size = 2 ∧ i.bytes = 16 := info_parts infU0
end B8
end Go.Proofs.Ytbcjhmdkpkmieaa
namespace Go.Proofs.Ytbcjhmdkpkmieaa
open Go.RowKit
open Go
namespace B8
set_option maxRecDepth 20000 in
set_option maxHeartbeats 1000000 in
theorem samebox_ (p q : Option Addr) (c d : Nat) (ps : List (Nat × Nat)) (w : World) (hx : AG FLV w p ps) (hy : AG ULV w q ps) (lx : ps.length ≤ 1048576) :
    Calls Try.prog 32 #[.slice p ps.length c, .slice q ps.length d] w fun e w' => e = .returned (.bool true) ∧ Kp w w' := by
  obtain ⟨N, hN⟩ : ∃ N, N = ps.length := ⟨_, rfl⟩
  rw [← hN] at lx ⊢
  have HX : Hid (AG FLV w p ps) := hx
  have HY : Hid (AG ULV w q ps) := hy
  have HN : Hid (N = ps.length) := hN
  clear hN hx hy
  go_enter Try.func32, Try.ntmps32
  go_wp2
  go_loopw [5] (fun i wr => ∃ k : Nat, k ≤ N ∧ i = .int .i64 k ∧ Kp w wr) (fun i _ => N - (intOf i).toNat)
  case atStart => exact ⟨0, Nat.zero_le _, rfl, Kp.refl _⟩
  case round =>
    obtain ⟨k, hk, rfl, hg⟩ := hrel
    have hN := HN.out
    by_cases ck : k < N
    · obtain ⟨b, off, rfl, hc⟩ := HX.out.at (k := k) (by omega)
      obtain ⟨b', off', rfl, hc'⟩ := HY.out.at (k := k) (by omega)
      have e1 : wr.cell? ⟨b, off + k * 2, none⟩ = some (.float .f64 (ps.getD k (0, 0)).1) := kkeep hg (hc k (by omega)).1
      have e2 : wr.cell? ⟨b, off + k * 2 + 1, none⟩ = some (.float .f64 (ps.getD k (0, 0)).2) := kkeep hg (hc k (by omega)).2
      have f1 : wr.cell? ⟨b', off' + k * 2, none⟩ = some (.int .u64 (((ps.getD k (0, 0)).1 : Nat) : Int)) := kkeep hg (hc' k (by omega)).1
      have f2 : wr.cell? ⟨b', off' + k * 2 + 1, none⟩ = some (.int .u64 (((ps.getD k (0, 0)).2 : Nat) : Int)) := kkeep hg (hc' k (by omega)).2
      have ho := out9_ (ps.getD k (0, 0)).1 (ps.getD k (0, 0)).2
      generalize (ps.getD k (0, 0)).1 = Y1 at e1 f1 ho
      generalize (ps.getD k (0, 0)).2 = Y2 at e2 f2 ho
      generalize (Y1 : Int) = Z1 at f1 ho
      generalize (Y2 : Int) = Z2 at f2 ho
      clear hc hc' HX HY HN hN hk
      go_wp2
      refine Fq.wp_region_grow (by kernel_rfl) (by kernel_rfl) (fun ι _ G hG hall => ?_)
      have cc0 : ∀ n, (G n).cell? ⟨b, off + k * 2, none⟩ = some (.float .f64 Y1) := fun n => Fq.gkeep (hG n) e1
      have cc1 : ∀ n, (G n).cell? ⟨b, off + k * 2 + 1, none⟩ = some (.float .f64 Y2) := fun n => Fq.gkeep (hG n) e2
      have cc2 : ∀ n, (G n).cell? ⟨b', off' + k * 2, none⟩ = some (.int .u64 Z1) := fun n => Fq.gkeep (hG n) f1
      have cc3 : ∀ n, (G n).cell? ⟨b', off' + k * 2 + 1, none⟩ = some (.int .u64 Z2) := fun n => Fq.gkeep (hG n) f2
      repeat (go_big_quiet_step (first | (go_at_call 25; exact (ho _).mono (fun e w' h => ⟨h.1, hall _ (Fq.gtrans (hG _) h.2)⟩))))
      refine wpQuiet_nil ?_
      rintro _ ⟨nq, rfl⟩
      have gq : Kp wr (G nq) := hG nq
      clear cc0 cc1 cc2 cc3 hall hG
      go_wp2
      exact ⟨⟨k + 1, by omega, by go_num, Kp.trans hg gq⟩, by simp [intOf]; omega⟩
    · clear HX HY HN hN
      go_wp2
      exact bodyPost_ret (v := .bool true) (by simp [results, Try.results32, go_sem]) rfl ⟨rfl, hg⟩
end B8
end Go.Proofs.Ytbcjhmdkpkmieaa
namespace Go.Proofs.Ytbcjhmdkpkmieaa
open Go.RowKit
open Go
namespace B8
set_option maxRecDepth 20000 in
set_option maxHeartbeats 400000 in
set_option maxRecDepth 20000 in
theorem slp (b off l k N c : Nat) (h : l + k ≤ N) (hN : N ≤ c) (hk : 0 < k) (w : World) : (Instr.slice 22 (.slice (some ⟨b, off, none⟩) N c) (some (.int .i64 (l : Int))) (some (.int .i64 ((l + k : Nat) : Int))) none).run Try.prog w = .ok (.slice (some ⟨b, off + l, none⟩) k (c - l)) w := by
  rw [run_slice_lh w 22 (some ⟨b, off, none⟩) N c Try.underlying22 .i64 .i64 (l : Int) ((l + k : Nat) : Int) (by omega) (by omega) (by omega)]
  have e : (sizeOf (Try.prog.elem 22)).run Try.prog w = .ok 1 w := by kernel_rfl
  have e3 : ¬ c = l := by omega
  have e4 : ((l : Int) + (k : Int)).toNat - l = k := by omega
  rw [e]
  simp [Result.andThen, sliced, e3, e4, addr_add]
set_option maxRecDepth 20000 in
set_option maxHeartbeats 1000000 in
theorem rgetboxE_ (p : Option Addr) (c : Nat) (w : World) : Calls Try.prog 31 #[.slice p 0 c] w fun e w' => e = .returned (.tuple #[.slice none 0 0, .int .i64 130]) ∧ Kp w w' := by
  go_enter Try.func31, Try.ntmps31
  go_wp2
  exact bodyPost_ret (v := .tuple #[.slice none 0 0, .int .i64 130]) (by simp [results, Try.results31, go_sem]) rfl ⟨rfl, Kp.refl _⟩
set_option maxRecDepth 20000 in
set_option maxHeartbeats 1000000 in
theorem rgetboxH_ (b off N c : Nat) (D : Int) (hD0 : 0 ≤ D) (hD1 : D < 256) (hN : 0 < N) (hN2 : N ≤ 1048576) (w : World) (hc : w.cell? ⟨b, off, none⟩ = some (.int .u8 D)) (h : 32 < D ∨ (N : Int) ≠ 1 + 16 * D) : Calls Try.prog 31 #[.slice (some ⟨b, off, none⟩) N c] w fun e w' => e = .returned (.tuple #[.slice none 0 0, .int .i64 130]) ∧ Kp w w' := by
  have hwD : IntKind.i64.wrap D = D := by rw [IntKind.wrap_i64]; omega
  have n0 : ((N : Int) == 0) = false := by simp; omega
  by_cases c1 : 32 < D
  · clear h
    go_enter Try.func31, Try.ntmps31
    go_wp2
    exact bodyPost_ret (v := .tuple #[.slice none 0 0, .int .i64 130]) (by simp [results, Try.results31, go_sem]) rfl ⟨rfl, Kp.refl _⟩
  · have h2 : ((N : Int) != 1 + 16 * D) = true := by
      rcases h with h | h
      · exact absurd h c1
      · simpa using h
    clear h
    go_enter Try.func31, Try.ntmps31
    go_wp2
    exact bodyPost_ret (v := .tuple #[.slice none 0 0, .int .i64 130]) (by simp [results, Try.results31, go_sem]) rfl ⟨rfl, Kp.refl _⟩
set_option maxRecDepth 20000 in
set_option maxHeartbeats 2000000 in
theorem rgetboxY_ (b off N M c : Nat) (xs : List Int) (w : World) (hx : Arr w (some ⟨b, off, none⟩) xs) (hl : xs.length = N) (hw : Wb xs) (hc : N ≤ c) (hM : M ≤ 32) (hM2 : xs.getD 0 0 = (M : Int)) (hN : N = 1 + 16 * M) (EV : Int) (LV : List (Nat × Nat)) (hEV : EV = if bAll xs M then 0 else 130) (hLV : LV = if bAll xs M then bP xs M else []) :
    Calls Try.prog 31 #[.slice (some ⟨b, off, none⟩) N c] w fun e w' => ∃ v, e = .returned (.tuple #[v, .int .i64 EV]) ∧ OG ULV 42 w' w.heap.size v LV ∧ Kp w w' := by
  have HV : Hid (EV = (if bAll xs M then 0 else 130) ∧ LV = (if bAll xs M then bP xs M else [])) := ⟨hEV, hLV⟩
  clear hEV hLV
  obtain ⟨b', off', he, hcell⟩ := hx.at (k := 0) (by omega)
  obtain ⟨rfl, rfl⟩ : b = b' ∧ off = off' := by simpa using he
  have hc0 := hcell 0 (by omega)
  rw [hM2, Nat.add_zero] at hc0
  have hn1 : (N : Int) = 1 + 16 * (M : Int) := by omega
  have n0 : ((N : Int) == 0) = false := by simp; omega
  have n1 : ((N : Int) != 1 + 16 * (M : Int)) = false := by simp; omega
  have n2 : ¬ (32 < (M : Int)) := by omega
  obtain ⟨i0, hi0, hi1, hi2, hi3⟩ := infU
  have HG : Hid (∀ (k : Nat) (W : World), k < M → Kp w W → Calls Try.prog 21 #[.slice (some ⟨b, off + (1 + 16 * k), none⟩) 16 (c - (1 + 16 * k))] W fun e w' => e = .returned (.tuple #[.agg #[.int .u64 ((gX (pt xs k) : Nat) : Int), .int .u64 ((gY (pt xs k) : Nat) : Int)], .int .i64 (gE (pt xs k))]) ∧ Kp W w') := by
    show ∀ (k : Nat) (W : World), k < M → Kp w W → Calls Try.prog 21 #[.slice (some ⟨b, off + (1 + 16 * k), none⟩) 16 (c - (1 + 16 * k))] W fun e w' => e = .returned (.tuple #[.agg #[.int .u64 ((gX (pt xs k) : Nat) : Int), .int .u64 ((gY (pt xs k) : Nat) : Int)], .int .i64 (gE (pt xs k))]) ∧ Kp W w'
    intro k W hk kk
    exact rget_ _ _ 16 (pt xs k) W ((Arr.part hcell (1 + 16 * k) 16).grown kk) (pt_len xs k M (by omega) hk) (pt_wb hw k)
  have HM : Hid (N = 1 + 16 * M ∧ M ≤ 32 ∧ N ≤ c) := ⟨hN, hM, hc⟩
  clear hx hl hw hM2 he hcell hN hM
  go_enter Try.func31, Try.ntmps31
  go_wp2
  go_loopw [4, 5] (fun a i wr => ∃ (v : Value) (j : Nat), v = a ∧ j ≤ M ∧ i = .int .i64 j ∧ bAll xs j = true ∧ OG ULV 42 wr w.heap.size v (bP xs j) ∧ Kp w wr) (fun _ i _ => M - (intOf i).toNat)
  case atStart => exact ⟨_, 0, rfl, Nat.zero_le _, rfl, rfl, OG.nil ULV 42 w w.heap.size, Kp.refl _⟩
  case round =>
    obtain ⟨v, j, rfl, hj, rfl, hall, hown, hkp⟩ := hrel
    have hcr := kkeep hkp hc0
    obtain ⟨hN, hM, hc⟩ := HM.out
    by_cases cj : j < M
    · have hg := HG.out j wr cj hkp
      have hsl := slp b off (1 + 16 * j) 16 N c (by omega) hc (by decide)
      have f1 : (1 : Int) + 16 * (j : Int) = ((1 + 16 * j : Nat) : Int) := by omega
      have f2 : (17 : Int) + 16 * (j : Int) = ((1 + 16 * j + 16 : Nat) : Int) := by omega
      have hlen := bP_len xs j
      have HP : Hid (bP xs (j + 1) = bP xs j ++ [(gX (pt xs j), gY (pt xs j))]) := bP_succ xs j
      have HA : Hid (bAll xs (j + 1) = (bAll xs j && gOk (pt xs j))) := bAll_succ xs j
      have HF : Hid (gOk (pt xs j) = false → bAll xs M = false) := fun h => bAll_le xs j M cj h
      have HE : Hid (gE (pt xs j) = if gOk (pt xs j) then 0 else 130) := rfl
      obtain ⟨Z, hZ⟩ : ∃ Z, Z = 1 + 16 * j := ⟨_, rfl⟩
      rw [← hZ] at hg hsl f1 f2
      have HZ : Hid (Z = 1 + 16 * j) := hZ
      rw [HE.out] at hg
      clear hZ HE
      cases hok : gOk (pt xs j)
      · rw [hok] at hg
        have hAM : Hid (EV = 130 ∧ LV = []) := by
          have h := HV.out
          rw [HF.out hok] at h
          exact h
        clear HV
        generalize ((gX (pt xs j) : Nat) : Int) = X at hg
        generalize ((gY (pt xs j) : Nat) : Int) = Y at hg
        simp only [Bool.false_eq_true, if_false] at hg
        clear HP HA HF hok HG HM hall hown hlen hN hM hc HZ
        go_wp2_with (first | (go_at_call 21; refine hg.mono ?_; rintro e w1 ⟨rfl, g1⟩; have hk1 := Kp.trans hkp g1))
        exact bodyPost_ret (v := .tuple #[.slice none 0 0, .int .i64 130]) (by simp [results, Try.results31, go_sem]) rfl ⟨.slice none 0 0, by rw [hAM.out.1], by rw [hAM.out.2]; exact OG.nil ULV 42 _ _, by exact hk1.alloc _⟩
      · rw [hok] at hg
        have hA1 : Hid (bAll xs (j + 1) = true) := by
          show bAll xs (j + 1) = true
          rw [HA.out, hall, hok]; rfl
        have HP2 := HP.out
        obtain ⟨X, hX⟩ : ∃ X : Int, X = ((gX (pt xs j) : Nat) : Int) := ⟨_, rfl⟩
        obtain ⟨Y, hY⟩ : ∃ Y : Int, Y = ((gY (pt xs j) : Nat) : Int) := ⟨_, rfl⟩
        have HP3 : Hid (∀ (v' : Value) (w2 : World), w2.ownsRow w.heap.size 42 2 v' (j + 1) (flat ULV (bP xs j) ++ [.int .u64 X, .int .u64 Y]) → OG ULV 42 w2 w.heap.size v' (bP xs (j + 1))) := by
          show ∀ (v' : Value) (w2 : World), w2.ownsRow w.heap.size 42 2 v' (j + 1) (flat ULV (bP xs j) ++ [.int .u64 X, .int .u64 Y]) → OG ULV 42 w2 w.heap.size v' (bP xs (j + 1))
          intro v' w2 h
          rw [HP2]
          refine OG.push ?_
          rw [hlen]
          rw [hX, hY] at h
          exact h
        rw [← hX, ← hY] at hg
        simp only [if_true] at hg
        have hjb : j < 32 := by omega
        clear HV HP HP2 hX hY HA HF hok HG HM hall hN hM hc HZ
        go_wp2_with (first | (go_at_call 21; refine hg.mono ?_; rintro e w1 ⟨rfl, g1⟩; have hk1 := Kp.trans hkp g1; have hown1 := hown.kp g1; have hob := og_block hown1; have hsz := hk1.size; have hown' : w1.ownsRow w.heap.size 42 2 v ((bP xs j).length) (flat ULV (bP xs j)) := hown1; clear hg) | (at_builtin; refine wpList_append_own _ rfl _ _ 64 rfl w.heap.size 42 i0 (.agg #[.int .u64 0, .int .u64 0]) 2 16 Try.underlying64 hi0 hi1 hi2 hi3 rfl (by decide) _ _ _ rfl ((hown'.alloc _).alloc _) ⟨w1.heap.size + 1, 0, none⟩ 1 1 [.int .u64 X, .int .u64 Y] rfl rfl ?c1 ?c2 ?c3 ?c4 ?c5 ?_))
        case c1 =>
          intro j' u hj'
          match j', hj' with
          | 0, hj' => simp at hj'; subst hj'; simp [Addr.add]
          | 1, hj' => simp at hj'; subst hj'; simp [Addr.add]
        case c2 => intro u hu; simp at hu; rcases hu with rfl | rfl <;> rfl
        case c3 => unfold maxLen; omega
        case c4 => omega
        case c5 => simp; omega
        intro v' w2 hown2 hgrow _
        have hO : OG ULV 42 w2 w.heap.size v' (bP xs (j + 1)) := HP3.out v' w2 hown2
        have hK2 : Kp w w2 := ((hk1.alloc _).alloc _).grown hgrow hob
        clear hown2 hgrow hown' hkp hob hsz HP3 hlen hk1 hown1 hown g1 hsl f1 f2
        go_wp2
        exact ⟨⟨_, j + 1, rfl, by omega, by go_num, hA1.out, hO, hK2⟩, by simp [intOf]; omega⟩
    · have hjk : j = M := by omega
      subst hjk
      have HAL : Hid (EV = 0 ∧ LV = bP xs j) := by
        have h := HV.out
        rw [hall] at h
        exact h
      clear HG HM hall hN hM hc HV
      go_wp2
      exact bodyPost_ret (v := .tuple #[v, .int .i64 0]) (by simp [results, Try.results31, go_sem] <;> simp only [*]) rfl ⟨v, by rw [HAL.out.1], by rw [HAL.out.2]; exact hown, hkp⟩
end B8
end Go.Proofs.Ytbcjhmdkpkmieaa
namespace Go.Proofs.Ytbcjhmdkpkmieaa
open Go.RowKit
open Go
namespace B8
theorem rgetbox_ (p : Option Addr) (c N : Nat) (xs : List Int) (w : World) (hx : Arr w p xs) (hl : xs.length = N) (hw : Wb xs) (hc : N ≤ c) (lx : N ≤ 1048576) : Calls Try.prog 31 #[.slice p N c] w fun e w' => ∃ v, e = .returned (.tuple #[v, .int .i64 (bE xs)]) ∧ OG ULV 42 w' w.heap.size v (bL xs) ∧ Kp w w' := by
  by_cases h0 : N = 0
  · have hb : bOk xs = false := by unfold bOk bHd; rw [hl, h0]; rfl
    unfold bE bL
    rw [hb, h0]
    exact (rgetboxE_ p c w).mono fun e w' h => ⟨.slice none 0 0, h.1, OG.nil _ _ _ _, h.2⟩
  · obtain ⟨b, off, rfl, hcell⟩ := hx.at (k := 0) (by omega)
    have hc0 := hcell 0 (by omega)
    rw [Nat.add_zero] at hc0
    have hD := hw 0
    obtain ⟨M, hM⟩ := Int.eq_ofNat_of_zero_le hD.1
    have hbn : bN xs = M := by unfold bN; rw [hM]; rfl
    by_cases h1 : M ≤ 32 ∧ N = 1 + 16 * M
    · have hh : bHd xs = true := by unfold bHd; rw [hbn, hl, decide_eq_true (by omega : 0 < N), decide_eq_true h1.1, decide_eq_true h1.2]; rfl
      refine rgetboxY_ b off N M c xs w hx hl hw hc h1.1 hM h1.2 _ _ ?_ ?_
      · unfold bE bOk; rw [hh, hbn, Bool.true_and]
      · unfold bL bOk; rw [hh, hbn, Bool.true_and]
    · have hh : bOk xs = false := by
        unfold bOk bHd
        rw [hbn, hl]
        by_cases a : M ≤ 32
        · rw [decide_eq_false (fun e => h1 ⟨a, e⟩ : ¬ N = 1 + 16 * M)]; simp
        · rw [decide_eq_false a]; simp
      unfold bE bL
      rw [hh]
      have g := rgetboxH_ b off N c (xs.getD 0 0) hD.1 hD.2 (by omega) lx w hc0 (by rw [hM]; omega)
      exact g.mono fun e w' h => ⟨.slice none 0 0, h.1, OG.nil _ _ _ _, h.2⟩
end B8
end Go.Proofs.Ytbcjhmdkpkmieaa
namespace Go.Proofs.Ytbcjhmdkpkmieaa
open Go.RowKit
open Go
namespace B8
set_option maxRecDepth 20000 in
set_option maxHeartbeats 400000 in
theorem boxlen_ (k : Nat) (hk : k ≤ 1048576) (w : World) : Calls Try.prog 37 #[.int .i64 (k : Int)] w fun e w' => e = .returned (.int .i64 ((1 + 16 * k : Nat) : Int)) ∧ w' = w := by
  have e : ((1 + 16 * k : Nat) : Int) = 1 + (k : Int) * 16 := by omega
  rw [e]
  go_enter Try.func37, Try.ntmps37
  go_wp2
  exact bodyPost_ret (v := .int .i64 (1 + (k : Int) * 16)) (by simp [results, Try.results37, go_sem]) rfl ⟨rfl, rfl⟩
set_option maxRecDepth 20000 in
set_option maxHeartbeats 400000 in
theorem part_ (g o n c k : Nat) (hk : k ≤ 1048576) (h : 1 + 16 * k + 16 ≤ c) (w : World) : Calls Try.prog 38 #[.slice (some ⟨g, o, none⟩) n c, .int .i64 (k : Int)] w fun e w' => e = .returned (.slice (some ⟨g, o + (1 + 16 * k), none⟩) 16 16) ∧ w' = w := by
  have h1 := boxlen_ k hk
  have h2 : ∀ w : World, Calls Try.prog 35 #[.slice (some ⟨g, o, none⟩) n c, .int .i64 ((1 + 16 * k : Nat) : Int), .int .i64 16] w fun e w' => e = .returned (.slice (some ⟨g, o + (1 + 16 * k), none⟩) 16 16) ∧ w' = w := cut_ g o n c (1 + 16 * k) 16 h (by decide) (by omega)
  clear h hk
  generalize ((1 + 16 * k : Nat) : Int) = Z at h1 h2
  go_enter Try.func38, Try.ntmps38
  go_wp2_with (first | (go_at_call 37; refine (h1 _).mono ?_; rintro e w' ⟨rfl, rfl⟩) | (go_at_call 35; refine (h2 _).mono ?_; rintro e w' ⟨rfl, rfl⟩))
  exact bodyPost_ret (v := .slice (some ⟨g, o + (1 + 16 * k), none⟩) 16 16) (by simp [results, Try.results38, go_sem]) rfl ⟨rfl, rfl⟩
end B8
end Go.Proofs.Ytbcjhmdkpkmieaa
namespace Go.Proofs.Ytbcjhmdkpkmieaa
open Go.RowKit
open Go
namespace B8
/-- a row of pairs -/
def RG (w : World) (g n : Nat) (q : Nat → Nat × Nat) : Prop := w.rowIs g 25 (n * 2) (fun j => if j % 2 = 0 then FLV (q (j / 2)).1 else FLV (q (j / 2)).2)
theorem RG.congr {w : World} {g n : Nat} {q r : Nat → Nat × Nat} (h : RG w g n q) (e : ∀ i, i < n → q i = r i) : RG w g n r := World.rowIs.congr h (fun j hj => by rw [e (j / 2) (by omega)])
theorem RG.grown {w w' : World} {g n : Nat} {q : Nat → Nat × Nat} (h : RG w g n q) (k : Kp w w') : RG w' g n q := rowIs_grown h k
theorem RG.put {w : World} {g n : Nat} {q : Nat → Nat × Nat} (h : RG w g n q) (k a b : Nat) : RG ((w.setCell ⟨g, k * 2, none⟩ (.float .f64 a)).setCell ⟨g, k * 2 + 1, none⟩ (.float .f64 b)) g n (fun i => if i = k then (a, b) else q i) := by
  refine World.rowIs.congr (World.rowIs.set (World.rowIs.set h (k * 2) (.float .f64 a)) (k * 2 + 1) (.float .f64 b)) (fun j _ => ?_)
  by_cases c1 : j = k * 2 + 1
  · subst c1
    rw [if_pos rfl, if_neg (by omega), show (k * 2 + 1) / 2 = k from by omega]; simp [FLV]
  · rw [if_neg c1]
    by_cases c2 : j = k * 2
    · subst c2
      rw [if_pos rfl, if_pos (by omega), show (k * 2) / 2 = k from by omega]; simp [FLV]
    · have c3 : ¬ j / 2 = k := by omega
      rw [if_neg c2]; simp [c3]
theorem RG.ag {w : World} {g n : Nat} {q : Nat → Nat × Nat} (h : RG w g n q) (ps : List (Nat × Nat)) (hl : ps.length = n) (e : ∀ i, i < n → q i = ps.getD i (0, 0)) : AG FLV w (some ⟨g, 0, none⟩) ps := Or.inr ⟨g, 0, rfl, fun j hj => by
  have a := World.rowIs.cell h (i := j * 2) (by omega)
  have b := World.rowIs.cell h (i := j * 2 + 1) (by omega)
  rw [if_pos (by omega), show (j * 2) / 2 = j from by omega, e j (by omega)] at a
  rw [if_neg (by omega), show (j * 2 + 1) / 2 = j from by omega, e j (by omega)] at b
  rw [Nat.zero_add]
  exact ⟨a, b⟩⟩
theorem mkI (n : Nat) (h : n ≤ 1048576) (w : World) : (Instr.makeSlice 33 (.int .i64 (n : Int)) (.int .i64 (n : Int))).run Try.prog w = .ok (.slice (some ⟨w.heap.size, 0, none⟩) n n) (w.alloc (.cells (madeCells #[.float .f64 0, .float .f64 0] (n * 2)) 25)) := by
  obtain ⟨i0, hi0, hi1, hi2, hi3⟩ := infF
  have hr := run_make (P := Try.prog) w 33 25 i0 _ Try.underlying33 hi0 hi1 .i64 .i64 n n (by omega) (Int.le_refl _) (by rw [hi3]; omega) (by omega)
  simp only [Int.toNat_natCast, hi2] at hr
  exact hr
theorem RG.made (w : World) (n : Nat) : RG (w.alloc (.cells (madeCells #[.float .f64 0, .float .f64 0] (n * 2)) 25)) w.heap.size n (fun _ => (0, 0)) := by
  have h := World.rowIs_alloc w (madeCells #[.float .f64 0, .float .f64 0] (n * 2)) 25 (fun j => if j % 2 = 0 then FLV ((fun _ => (0, 0)) (j / 2)).1 else FLV ((fun _ => (0, 0)) (j / 2)).2) (fun i hi => by
    rw [size_madeCells] at hi
    have : i % 2 = 0 ∨ i % 2 = 1 := by omega
    rcases this with h | h <;> simp [madeCells, hi, h, FLV])
  rw [size_madeCells] at h
  exact h
set_option maxRecDepth 20000 in
set_option maxHeartbeats 1000000 in
theorem getboxE_ (p : Option Addr) (c : Nat) (w : World) : Calls Try.prog 14 #[.slice p 0 c] w fun e w' => e = .returned (.tuple #[.slice none 0 0, .int .i64 130]) ∧ Kp w w' := by
  go_enter Try.func14, Try.ntmps14
  go_wp2
  exact bodyPost_ret (v := .tuple #[.slice none 0 0, .int .i64 130]) (by simp [results, Try.results14, go_sem]) rfl ⟨rfl, Kp.refl _⟩
set_option maxRecDepth 20000 in
set_option maxHeartbeats 1000000 in
theorem getboxH_ (b off N c M : Nat) (hD1 : M < 256) (hN : 0 < N) (hN2 : N ≤ 1048576) (w : World) (hc : w.cell? ⟨b, off, none⟩ = some (.int .u8 (M : Int))) (h : 32 < M ∨ N ≠ 1 + 16 * M) : Calls Try.prog 14 #[.slice (some ⟨b, off, none⟩) N c] w fun e w' => e = .returned (.tuple #[.slice none 0 0, .int .i64 130]) ∧ Kp w w' := by
  have hwD : IntKind.i64.wrap (M : Int) = (M : Int) := by rw [IntKind.wrap_i64]; omega
  have n0 : ((N : Int) == 0) = false := by simp; omega
  by_cases c1 : 32 < M
  · have c2 : (32 : Int) < (M : Int) := by omega
    clear h c1
    go_enter Try.func14, Try.ntmps14
    go_wp2
    exact bodyPost_ret (v := .tuple #[.slice none 0 0, .int .i64 130]) (by simp [results, Try.results14, go_sem]) rfl ⟨rfl, Kp.refl _⟩
  · have c2 : ¬ (32 : Int) < (M : Int) := by omega
    have hb := boxlen_ M (by omega)
    have h2 : ((N : Int) != ((1 + 16 * M : Nat) : Int)) = true := by simp; omega
    generalize ((1 + 16 * M : Nat) : Int) = Z at hb h2
    clear h c1
    go_enter Try.func14, Try.ntmps14
    go_wp2_with (first | (go_at_call 37; refine (hb _).mono ?_; rintro e w' ⟨rfl, rfl⟩))
    exact bodyPost_ret (v := .tuple #[.slice none 0 0, .int .i64 130]) (by simp [results, Try.results14, go_sem]) rfl ⟨rfl, Kp.refl _⟩
set_option maxRecDepth 20000 in
set_option maxHeartbeats 2000000 in
theorem getboxY_ (b off N M c : Nat) (xs : List Int) (w : World) (hx : Arr w (some ⟨b, off, none⟩) xs) (hl : xs.length = N) (hw : Wb xs) (hc : N ≤ c) (hM : M ≤ 32) (hM2 : xs.getD 0 0 = (M : Int)) (hN : N = 1 + 16 * M) (EV : Int) (LV : List (Nat × Nat)) (hEV : EV = if bAll xs M then 0 else 130) (hLV : LV = if bAll xs M then bP xs M else []) :
    Calls Try.prog 14 #[.slice (some ⟨b, off, none⟩) N c] w fun e w' => ∃ p' d, e = .returned (.tuple #[.slice p' LV.length d, .int .i64 EV]) ∧ AG FLV w' p' LV ∧ LV.length ≤ d ∧ (∀ a, p' = some a → w.heap.size ≤ a.block) ∧ Kp w w' := by
  have HV : Hid (EV = (if bAll xs M then 0 else 130) ∧ LV = (if bAll xs M then bP xs M else [])) := ⟨hEV, hLV⟩
  clear hEV hLV
  obtain ⟨b', off', he, hcell⟩ := hx.at (k := 0) (by omega)
  obtain ⟨rfl, rfl⟩ : b = b' ∧ off = off' := by simpa using he
  have hc0 := hcell 0 (by omega)
  rw [hM2, Nat.add_zero] at hc0
  have hwD : IntKind.i64.wrap (M : Int) = (M : Int) := by rw [IntKind.wrap_i64]; omega
  have n0 : ((N : Int) == 0) = false := by simp; omega
  have n2 : ¬ (32 < (M : Int)) := by omega
  have hN0 : 0 < N := by omega
  have hb := boxlen_ M (by omega)
  have n1 : ((N : Int) != ((1 + 16 * M : Nat) : Int)) = false := by simp; omega
  generalize ((1 + 16 * M : Nat) : Int) = Z at hb n1
  have hmk := mkI M (by omega)
  have hr0 := RG.made w M
  have hg0 : Kp w (w.alloc (.cells (madeCells #[.float .f64 0, .float .f64 0] (M * 2)) 25)) := (Kp.refl w).alloc _
  obtain ⟨G, hG⟩ : ∃ G, G = w.heap.size := ⟨_, rfl⟩
  rw [← hG] at hr0
  have HGG : Hid (G = w.heap.size) := hG
  have HGT : Hid (∀ (k : Nat) (W : World), k < M → Kp w W → Calls Try.prog 24 #[.slice (some ⟨b, off + (1 + 16 * k), none⟩) 16 16] W fun e w' => e = .returned (.tuple #[.agg #[.float .f64 (gX (pt xs k)), .float .f64 (gY (pt xs k))], .int .i64 (gE (pt xs k))]) ∧ Kp W w') := by
    show ∀ (k : Nat) (W : World), k < M → Kp w W → Calls Try.prog 24 #[.slice (some ⟨b, off + (1 + 16 * k), none⟩) 16 16] W fun e w' => e = .returned (.tuple #[.agg #[.float .f64 (gX (pt xs k)), .float .f64 (gY (pt xs k))], .int .i64 (gE (pt xs k))]) ∧ Kp W w'
    intro k W hk kk
    exact get_ _ 16 16 (pt xs k) W ((Arr.part hcell (1 + 16 * k) 16).grown kk) (pt_len xs k M (by omega) hk) (pt_wb hw k) (Nat.le_refl _)
  have HPT : Hid (∀ (k : Nat) (W : World), k < M → Calls Try.prog 38 #[.slice (some ⟨b, off, none⟩) N c, .int .i64 (k : Int)] W fun e w' => e = .returned (.slice (some ⟨b, off + (1 + 16 * k), none⟩) 16 16) ∧ w' = W) := by
    show ∀ (k : Nat) (W : World), k < M → Calls Try.prog 38 #[.slice (some ⟨b, off, none⟩) N c, .int .i64 (k : Int)] W fun e w' => e = .returned (.slice (some ⟨b, off + (1 + 16 * k), none⟩) 16 16) ∧ w' = W
    intro k W hk
    exact part_ b off N c k (by omega) (by omega) W
  have HM : Hid (M ≤ 32) := hM
  clear hx hl hw hM2 he hcell hN hM hc
  go_enter Try.func14, Try.ntmps14
  go_wp2_with (first | (go_at_call 37; refine (hb _).mono ?_; rintro e w' ⟨rfl, hw9⟩; rw [hw9]; clear hw9))
  rw [← hG]
  clear hG hmk hb
  go_loopw [29] (fun i wr => ∃ k : Nat, k ≤ M ∧ i = .int .i64 k ∧ bAll xs k = true ∧ RG wr G M (fun i => if i < k then (gX (pt xs i), gY (pt xs i)) else (0, 0)) ∧ Kp w wr) (fun i _ => M - (intOf i).toNat)
  case atStart => exact ⟨0, Nat.zero_le _, rfl, rfl, hr0.congr (fun i _ => by rw [if_neg (by omega)]), hg0⟩
  case round =>
    obtain ⟨k, hk, rfl, hall, hrow, hkp⟩ := hrel
    clear hr0 hg0
    by_cases ck : k < M
    · have hg := HGT.out k wr ck hkp
      have hp := HPT.out k wr ck
      have HA : Hid (bAll xs (k + 1) = (bAll xs k && gOk (pt xs k))) := bAll_succ xs k
      have HF : Hid (gOk (pt xs k) = false → bAll xs M = false) := fun h => bAll_le xs k M ck h
      have HE : gE (pt xs k) = if gOk (pt xs k) then 0 else 130 := rfl
      rw [HE] at hg
      generalize off + (1 + 16 * k) = o2 at hg hp
      have hM32 := HM.out
      clear HE HGT HPT
      cases hok : gOk (pt xs k)
      · rw [hok] at hg
        have hAM : Hid (EV = 130 ∧ LV = []) := by
          have h := HV.out
          rw [HF.out hok] at h
          exact h
        generalize gX (pt xs k) = X at hg
        generalize gY (pt xs k) = Y at hg
        simp only [Bool.false_eq_true, if_false] at hg
        clear HV HA HF hok hall hrow HGG HM
        go_wp2_with (first | (go_at_call 38; refine hp.mono ?_; rintro e w' ⟨rfl, hw9⟩; rw [hw9]; clear hw9) | (go_at_call 24; refine hg.mono ?_; rintro e w1 ⟨rfl, g1⟩; have hk1 := Kp.trans hkp g1))
        exact bodyPost_ret (v := .tuple #[.slice none 0 0, .int .i64 130]) (by simp [results, Try.results14, go_sem]) rfl ⟨none, 0, by rw [hAM.out.1, hAM.out.2]; rfl, by rw [hAM.out.2]; exact Or.inl rfl, by rw [hAM.out.2]; exact Nat.le_refl _, (by intro a h; cases h), by exact hk1.alloc _⟩
      · rw [hok] at hg
        have hA1 : Hid (bAll xs (k + 1) = true) := by
          show bAll xs (k + 1) = true
          rw [HA.out, hall, hok]; rfl
        have HR1 : Hid (∀ W : World, RG W G M (fun i => if i < k then (gX (pt xs i), gY (pt xs i)) else (0, 0)) → RG ((W.setCell ⟨G, k * 2, none⟩ (.float .f64 (gX (pt xs k)))).setCell ⟨G, k * 2 + 1, none⟩ (.float .f64 (gY (pt xs k)))) G M (fun i => if i < k + 1 then (gX (pt xs i), gY (pt xs i)) else (0, 0))) := by
          show ∀ W : World, RG W G M (fun i => if i < k then (gX (pt xs i), gY (pt xs i)) else (0, 0)) → RG ((W.setCell ⟨G, k * 2, none⟩ (.float .f64 (gX (pt xs k)))).setCell ⟨G, k * 2 + 1, none⟩ (.float .f64 (gY (pt xs k)))) G M (fun i => if i < k + 1 then (gX (pt xs i), gY (pt xs i)) else (0, 0))
          intro W h
          refine (h.put k (gX (pt xs k)) (gY (pt xs k))).congr (fun i _ => ?_)
          by_cases c1 : i = k
          · subst c1; rw [if_pos rfl, if_pos (by omega)]
          · rw [if_neg c1]
            by_cases c2 : i < k
            · rw [if_pos c2, if_pos (by omega)]
            · rw [if_neg c2, if_neg (by omega)]
        obtain ⟨X, hX⟩ : ∃ X, X = gX (pt xs k) := ⟨_, rfl⟩
        obtain ⟨Y, hY⟩ : ∃ Y, Y = gY (pt xs k) := ⟨_, rfl⟩
        rw [← hX, ← hY] at hg HR1
        simp only [if_true] at hg
        have HRW : Hid (RG wr G M (fun i => if i < k then (gX (pt xs i), gY (pt xs i)) else (0, 0))) := hrow
        have hlt := World.rowIs.lt hrow
        have hGw : w.heap.size ≤ G := by rw [HGG.out]; exact Nat.le_refl _
        clear HV HA HF hok hall hX hY hrow HGG HM
        go_wp2_with (first | (go_at_call 38; refine hp.mono ?_; rintro e w' ⟨rfl, hw9⟩; rw [hw9]; clear hw9))
        refine hg.mono ?_
        rintro e w1 ⟨rfl, g1⟩
        have hk1 := (Kp.trans hkp g1).alloc (.cells #[.float .f64 X, .float .f64 Y] 25)
        have hrw1 : RG (w1.alloc (.cells #[.float .f64 X, .float .f64 Y] 25)) G M (fun i => if i < k then (gX (pt xs i), gY (pt xs i)) else (0, 0)) := HRW.out.grown (g1.alloc _)
        have c1 := World.rowIs.cell hrw1 (i := k * 2) (by omega)
        have c2 := World.rowIs.cell hrw1 (i := k * 2 + 1) (by omega)
        have c3 := World.rowIs.frozen hrw1 (k * 2)
        have c4 := World.rowIs.frozen hrw1 (k * 2 + 1)
        have HR2 : Hid (RG (((w1.alloc (.cells #[.float .f64 X, .float .f64 Y] 25)).setCell ⟨G, k * 2, none⟩ (.float .f64 X)).setCell ⟨G, k * 2 + 1, none⟩ (.float .f64 Y)) G M (fun i => if i < k + 1 then (gX (pt xs i), gY (pt xs i)) else (0, 0))) := HR1.out _ hrw1
        have hsz1 := Below.size g1
        have hne : G ≠ w1.heap.size := by omega
        generalize (if k * 2 % 2 = 0 then FLV ((fun i => if i < k then (gX (pt xs i), gY (pt xs i)) else (0, 0)) (k * 2 / 2)).1 else FLV ((fun i => if i < k then (gX (pt xs i), gY (pt xs i)) else (0, 0)) (k * 2 / 2)).2) = V1 at c1
        generalize (if (k * 2 + 1) % 2 = 0 then FLV ((fun i => if i < k then (gX (pt xs i), gY (pt xs i)) else (0, 0)) ((k * 2 + 1) / 2)).1 else FLV ((fun i => if i < k then (gX (pt xs i), gY (pt xs i)) else (0, 0)) ((k * 2 + 1) / 2)).2) = V2 at c2
        clear hrw1 HR1 HRW hg hp
        go_wp2
        exact ⟨⟨k + 1, by omega, by go_num, hA1.out, HR2.out, (hk1.setCell hGw _).setCell hGw _⟩, by simp [intOf]; omega⟩
    · have hkM : k = M := by omega
      subst hkM
      have HAL : Hid (EV = 0 ∧ LV = bP xs k) := by
        have h := HV.out
        rw [hall] at h
        exact h
      have hag : Hid (AG FLV wr (some ⟨G, 0, none⟩) (bP xs k)) := RG.ag hrow (bP xs k) (bP_len xs k) (fun i hi => by rw [if_pos hi, bP_get xs k i hi])
      have hlen := bP_len xs k
      have HGW : Hid (w.heap.size ≤ G) := by
        show w.heap.size ≤ G
        rw [HGG.out]; exact Nat.le_refl _
      clear HGT HPT hall HV hrow HGG
      go_wp2
      exact bodyPost_ret (v := .tuple #[.slice (some ⟨G, 0, none⟩) k k, .int .i64 0]) (by simp [results, Try.results14, go_sem] <;> simp only [*]) rfl ⟨some ⟨G, 0, none⟩, k, by rw [HAL.out.1, HAL.out.2, bP_len], by rw [HAL.out.2]; exact hag.out, by rw [HAL.out.2, bP_len]; exact Nat.le_refl _, (by intro a h; cases h; exact HGW.out), hkp⟩
end B8
end Go.Proofs.Ytbcjhmdkpkmieaa
namespace Go.Proofs.Ytbcjhmdkpkmieaa
open Go.RowKit
open Go
namespace B8
theorem getbox_ (p : Option Addr) (c N : Nat) (xs : List Int) (w : World) (hx : Arr w p xs) (hl : xs.length = N) (hw : Wb xs) (hc : N ≤ c) (lx : N ≤ 1048576) : Calls Try.prog 14 #[.slice p N c] w fun e w' => ∃ p' d, e = .returned (.tuple #[.slice p' (bL xs).length d, .int .i64 (bE xs)]) ∧ AG FLV w' p' (bL xs) ∧ (bL xs).length ≤ d ∧ (∀ a, p' = some a → w.heap.size ≤ a.block) ∧ Kp w w' := by
  by_cases h0 : N = 0
  · have hb : bOk xs = false := by unfold bOk bHd; rw [hl, h0]; rfl
    unfold bE bL
    rw [hb, h0]
    exact (getboxE_ p c w).mono fun e w' h => ⟨none, 0, h.1, Or.inl rfl, Nat.le_refl _, (by intro a h; cases h), h.2⟩
  · obtain ⟨b, off, rfl, hcell⟩ := hx.at (k := 0) (by omega)
    have hc0 := hcell 0 (by omega)
    rw [Nat.add_zero] at hc0
    have hD := hw 0
    obtain ⟨M, hM⟩ := Int.eq_ofNat_of_zero_le hD.1
    have hbn : bN xs = M := by unfold bN; rw [hM]; rfl
    by_cases h1 : M ≤ 32 ∧ N = 1 + 16 * M
    · have hh : bHd xs = true := by unfold bHd; rw [hbn, hl, decide_eq_true (by omega : 0 < N), decide_eq_true h1.1, decide_eq_true h1.2]; rfl
      refine getboxY_ b off N M c xs w hx hl hw hc h1.1 hM h1.2 _ _ ?_ ?_
      · unfold bE bOk; rw [hh, hbn, Bool.true_and]
      · unfold bL bOk; rw [hh, hbn, Bool.true_and]
    · have hh : bOk xs = false := by
        unfold bOk bHd
        rw [hbn, hl]
        by_cases a : M ≤ 32
        · rw [decide_eq_false (fun e => h1 ⟨a, e⟩ : ¬ N = 1 + 16 * M)]; simp
        · rw [decide_eq_false a]; simp
      unfold bE bL
      rw [hh]
      rw [hM] at hc0 hD
      have g := getboxH_ b off N c M (by omega) (by omega) lx w hc0 (by omega)
      exact g.mono fun e w' h => ⟨none, 0, h.1, Or.inl rfl, Nat.le_refl _, (by intro a h; cases h), h.2⟩
end B8
end Go.Proofs.Ytbcjhmdkpkmieaa
namespace Go.Proofs.Ytbcjhmdkpkmieaa
open Go.RowKit
open Go
namespace B8
set_option maxRecDepth 20000 in
set_option maxHeartbeats 1000000 in
theorem opensA_ (p : Option Addr) (c N PL : Nat) (xs zs : List Int) (ps : List (Nat × Nat)) (hPL : ps.length = PL) (E : Int) (w : World)
    (HR : ∀ W : World, Kp w W → Calls Try.prog 31 #[.slice p N c] W fun e w' => ∃ v, e = .returned (.tuple #[v, .int .i64 E]) ∧ OG ULV 42 w' W.heap.size v ps ∧ Kp W w')
    (HM : ∀ W : World, Kp w W → Calls Try.prog 23 #[.slice p N c] W fun e w' => ∃ g d, e = .returned (.tuple #[.slice (some ⟨g, 0, none⟩) N d, .slice (some ⟨g, 0, none⟩) (N + 40) d]) ∧ Own w' W.heap.size (.slice (some ⟨g, 0, none⟩) (N + 40) d) zs ∧ N + 40 ≤ d ∧ Kp W w')
    (HA : ∀ (g d : Nat) (W : World) (base : Nat), Own W base (.slice (some ⟨g, 0, none⟩) (N + 40) d) zs → Arr W (some ⟨g, 0, none⟩) zs ∧ Arr W (some ⟨g, 0, none⟩) xs)
    (HG : ∀ (g d : Nat) (W : World), N ≤ d → Arr W (some ⟨g, 0, none⟩) xs → Calls Try.prog 14 #[.slice (some ⟨g, 0, none⟩) N d] W fun e w' => ∃ p' d', e = .returned (.tuple #[.slice p' ps.length d', .int .i64 E]) ∧ AG FLV w' p' ps ∧ ps.length ≤ d' ∧ (∀ a, p' = some a → W.heap.size ≤ a.block) ∧ Kp W w')
    (HS : ∀ (p q : Option Addr) (c d : Nat) (W : World), AG FLV W p ps → AG ULV W q ps → Calls Try.prog 32 #[.slice p PL c, .slice q PL d] W fun e w' => e = .returned (.bool true) ∧ Kp W w')
    (HL : ∀ (g d : Nat) (W : World), Kp w W → Arr W (some ⟨g, 0, none⟩) zs → N + 40 ≤ d → Calls Try.prog 26 #[.slice p N c, .slice (some ⟨g, 0, none⟩) (N + 40) d] W fun e w' => e = .returned (.bool true) ∧ Kp W w') : Calls Try.prog 8 #[.slice p N c] w fun e w' => e = .returned (.bool true) ∧ Kp w w' := by
  go_enter Try.func8, Try.ntmps8
  go_wp2_with (first | (go_at_call 31; refine (HR _ (Kp.refl _)).mono ?_; rintro e w1 ⟨v, rfl, o1, k1⟩; obtain ⟨p1, c1, rfl, a1, -⟩ := o1.arr; rw [hPL]) | (go_at_call 23; refine (HM _ k1).mono ?_; rintro e w2 ⟨g, d, rfl, o2, hd, g2⟩; have k2 := Kp.trans k1 g2; replace a1 := a1.grown g2; obtain ⟨az, ax⟩ := HA g d w2 _ o2) | (go_at_call 14; refine (HG g d _ (Nat.le_trans (Nat.le_add_right _ _) hd) ax).mono ?_; rintro e w3 ⟨p3, d3, rfl, a3, hd3, hb3, g3⟩; have k3 := Kp.trans k2 g3; replace a1 := a1.grown g3; replace az := az.grown g3; rw [hPL]) | (go_at_call 32; refine (HS _ _ _ _ _ a3 a1).mono ?_; rintro e w4 ⟨rfl, g4⟩; have k4 := Kp.trans k3 g4; replace az := az.grown g4) | (go_at_call 26; refine (HL g d _ k4 az hd).mono ?_; rintro e w5 ⟨rfl, g5⟩; have k5 := Kp.trans k4 g5))
  exact bodyPost_ret (v := .bool true) (by simp [results, Try.results8, go_sem]) rfl ⟨rfl, k5⟩
theorem openslaw_ (p : Option Addr) (c : Nat) (xs : List Int) (w : World) (hx : Arr w p xs) (hw : Wb xs) (hc : xs.length ≤ c) (lx : xs.length ≤ 1048576) : Calls Try.prog 8 #[.slice p xs.length c] w fun e w' => e = .returned (.bool true) ∧ Kp w w' := by
  obtain ⟨N, hN⟩ : ∃ N, xs.length = N := ⟨_, rfl⟩
  rw [hN] at hc lx ⊢
  have hbl : (bL xs).length ≤ 1048576 := by
    unfold bL
    by_cases h : bOk xs = true
    · rw [if_pos h, bP_len]
      unfold bOk bHd at h
      simp at h
      omega
    · rw [if_neg h]; exact Nat.zero_le _
  refine opensA_ p c N (bL xs).length xs (xs ++ List.replicate 40 201) (bL xs) rfl (bE xs) w (fun W k => rgetbox_ p c N xs W (hx.grown k) hN hw hc lx) (fun W k => marked_ p c N xs W (hx.grown k) hN lx) ?_ (fun g d W h a => getbox_ _ d N xs W a hN hw h lx) (fun p q c d W h1 h2 => samebox_ p q c d (bL xs) W h1 h2 hbl) (fun g d W k a h => left_ p _ c d N (N + 40) xs _ W (hx.grown k) a hN rfl rfl lx h)
  intro g d W base ho
  obtain ⟨p', c', e1, a1, -⟩ := ho.arr
  simp at e1
  rw [← e1.1] at a1
  refine ⟨a1, ?_⟩
  obtain ⟨b, off, e2, hcell⟩ := a1.at (k := 0) (by simp)
  exact Or.inr ⟨b, off, e2, fun j hj => by
    rw [hcell j (by rw [List.length_append]; omega)]
    simp [List.getD, List.getElem?_append, hj]⟩
end B8
end Go.Proofs.Ytbcjhmdkpkmieaa
